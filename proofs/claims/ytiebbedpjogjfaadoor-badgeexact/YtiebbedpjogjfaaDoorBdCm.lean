/- BadgeExact: the walk. -/
import Derived.Test.YtiebbedpjogjfaaDoorBdCl
import Derived.Test.YtiebbedpjogjfaaDoorBdZs
import Derived.Deep.DeepCutAuto
import Derived.Deep.CutRange
import Derived.Deep.LoopGhost
import Derived.Deep.Cut
import Derived.Deep.CutBlock
import Derived.Deep.RegionHeld3
namespace Go.Proofs.YtiebbedpjogjfaaDoor.Bd
open Go.RowKit Go.Shelf Go.Maps
theorem env_five {w : World} {Ad : Nat → Addr} (h : Env w Ad) : Env5 w Ad := by
  have F : ∀ k ∈ five, 1 ≤ k ∧ k ≤ 18 := by decide
  exact ⟨fun k hk => h.cell k (F k hk).1 (F k hk).2, fun k hk => h.sen k (F k hk).1 (F k hk).2, fun i hi j hj => h.inj i j (F i hi).1 (F i hi).2 (F j hj).1 (F j hj).2⟩
theorem I64_zero : I64 0 := I64_mid (by decide) (by decide)
set_option maxRecDepth 100000 in
theorem neq_same (i g : Int) (hi : I64 i) (hg : I64 g) (w : World) : (binOp .neq 29 (.agg #[.int .i64 i, .int .i64 g]) (.agg #[.int .i64 i, .int .i64 g])).run Tryd.prog w = .ok (.bool false) w := by
  obtain ⟨r, hr, hiff⟩ := run_equal_deep (P := Tryd.prog) w (m := 2) (by omega) (k := 29) (by kernel_rfl) Tryd.wide24 (key_ent i g hi hg) (key_ent i g hi hg)
  have e : r = true := hiff.2 rfl
  unfold entV at hr
  subst e
  simp [binOp, hr]
theorem entO_wf {n : Int} {l : Prs} (h : okP n l) (id : Int) : I64 (entO (who l id)).1 ∧ I64 (entO (who l id)).2 := by
  cases e : who l id with
  | none => exact ⟨I64_zero, I64_zero⟩
  | some x => exact h.i64 _ ((h.who id x).1 e)
theorem give_len (n : Int) (l : Prs) (i g : Int) : (giveR n l i g).2.2.2.length ≤ l.length + 1 := by
  unfold giveR
  cases num l (i, g) with
  | some x => simp
  | none =>
    simp only
    split
    · simp
    · simp [ins_len]
theorem pin_len (n : Int) (l : Prs) (id i g : Int) : (pinR n l id i g).2.length ≤ l.length + 1 := by
  unfold pinR
  split
  · simp
  · split
    · simp
    · simp [ins_len]
theorem drop_len (l : Prs) (id : Int) : (dropR l id).2.2.length ≤ l.length + 1 := by
  unfold dropR
  cases who l id with
  | some x => simp only; unfold del; have := List.length_filter_le (fun x : Int × Int × Int => !(x.1 == id)) l; omega
  | none => simp
theorem drop_wf {n : Int} {l : Prs} (h : okP n l) (id : Int) : I64 (dropR l id).1.1 ∧ I64 (dropR l id).1.2 := by
  unfold dropR
  cases e : who l id with
  | some x => exact h.i64 _ ((h.who id x).1 e)
  | none => exact ⟨I64_zero, I64_zero⟩
/-- Where a round is behind its call. -/
structure Rnd (Ad : Nat → Addr) (W1 : World) (bb ob nb ub bx : Nat) (x : ActI) (q : Nat) (f : Value) (k : Nat) (n : Int) (l : Prs) (v : Value) (w : World) : Prop where
  ex : Ex W1 bb ob nb ub n l v n l w
  act : w.heap[bx]? = some (.cells #[.int .i64 x.kind, .int .i64 x.i, .int .i64 x.g, .int .i64 x.n] 31 (0, 0))
  num : Num Ad w f k
  len : l.length ≤ q + 1
set_option maxHeartbeats 25600000 in
set_option maxRecDepth 100000 in
theorem exact_law (w : World) (Ad : Nat → Addr) (hE : Env w Ad) (av : Value) (cl : List ActI) (hC : ActRow w av cl) :
    Calls Tryd.prog 3 #[av] w fun e w' => e = .returned (.bool true) ∧ Below w.heap.size w w' := by
  have HC := hid hC
  obtain ⟨ca, cc, rfl, -, -⟩ := hC
  have AW := hid (awake_any Ad w (env_five hE))
  have HE := hid hE
  clear hE
  go_enter Tryd.func3, Tryd.ntmps3
  go_wp2_with fail
  refine AW.out.mono ?_
  rintro e w1 ⟨rfl, b1⟩
  have B1 := hid b1
  have E1 := hid (HE.out.later b1)
  have NW := hid (new_any w1)
  clear AW b1
  go_wp2_with fail
  refine NW.out.mono ?_
  rintro e w2 ⟨bb, ob, nb, rfl, h2, b2⟩
  have G2 := hid h2
  have B2 := hid b2
  have RW := hid (rnew_any w2)
  clear NW h2 b2
  go_wp2_with fail
  refine RW.out.mono ?_
  rintro e w3 ⟨ub, v3, rfl, h3, b3⟩
  have X3 : Hid (Ex w1 bb ob nb ub 1 [] v3 1 [] w3) := ⟨G2.out.later b3, ⟨h3.box, h3.row.lower B2.out.size, Nat.le_trans B2.out.size h3.low, h3.ne⟩, B2.out.trans (b3.mono B2.out.size)⟩
  clear RW h3 b3 G2 B2
  go_upto_block 0 with fail
  go_cut [5, 6, 7, 8, 9, 10, 11, 12, 13, 14, 15, 16, 17, 18, 19, 20, 21, 22, 23, 24, 25, 26, 27, 28] from 33 to 194 (fun _ _ _ _ _ _ _ _ _ _ _ _ _ _ _ _ _ _ _ _ _ _ _ _ wx => ∃ (n : Int) (l : Prs) (v : Value), Hid (Ex w1 bb ob nb ub n l v n l wx) ∧ Hid (l.length ≤ 200))
  case first =>
    go_wp2_with fail
    go_loopg [5, 6, 7, 8, 9, 10, 11, 12, 13, 14, 15, 16, 17, 18, 19, 20, 21, 22, 23, 24, 25, 26, 27, 28] 200 (fun gh i _ _ _ _ _ _ _ _ _ _ _ _ _ _ _ _ _ _ _ _ _ _ _ wr => ∃ q : Nat, q ≤ 200 ∧ gh = 200 - q ∧ i = .int .i64 (q : Int) ∧ ∃ (n : Int) (l : Prs) (v : Value), Hid (Ex w1 bb ob nb ub n l v n l wr) ∧ Hid (l.length ≤ q))
    case atStart => exact ⟨0, by omega, rfl, rfl, 1, [], v3, X3.out, Nat.le_refl _⟩
    case round =>
      clear X3
      rename World => wr
      obtain ⟨q, hq, rfl, rfl, n, l, v, HX, HLEN⟩ := hrel
      have BR := hid (B1.out.trans (HX.out.bel.mono B1.out.size))
      by_cases h1 : q < cl.length
      · have h1i : (q : Int) < (cl.length : Int) := by omega
        by_cases h2 : q < 200
        · have h2i : (q : Int) < 200 := by omega
          obtain ⟨x, hx⟩ := at_lt cl q h1
          have hwf : x.wf := by
            obtain ⟨_, _, _, q2, _⟩ := HC.out
            exact q2 x (List.mem_of_getElem? hx)
          obtain ⟨b, o, rfl, c0, c1, c2, c3⟩ : ∃ b o, ca = some ⟨b, o, none⟩ ∧ wr.cell? ⟨b, o + q * 4, none⟩ = some (.int .i64 x.kind) ∧ wr.cell? ⟨b, o + q * 4 + 1, none⟩ = some (.int .i64 x.i) ∧ wr.cell? ⟨b, o + q * 4 + 2, none⟩ = some (.int .i64 x.g) ∧ wr.cell? ⟨b, o + q * 4 + 3, none⟩ = some (.int .i64 x.n) := by
            obtain ⟨a', c', hv, -, hl⟩ := HC.out.later BR.out
            obtain ⟨rfl, rfl⟩ : ca = a' ∧ cc = c' := by simpa using hv
            rcases hl with h | ⟨b, o, h4, h5⟩
            · rw [h] at h1; simp at h1
            · exact ⟨b, o, h4, h5 q x hx⟩
          obtain ⟨w4, hw4⟩ : ∃ w4, w4 = wr.alloc (.cells #[.int .i64 x.kind, .int .i64 x.i, .int .i64 x.g, .int .i64 x.n] 31) := ⟨_, rfl⟩
          have X4 : Hid (Ex w1 bb ob nb ub n l v n l w4) := by rw [hw4]; exact HX.out.later (bAl _ _)
          have A4 : Hid (w4.heap[wr.heap.size]? = some (.cells #[.int .i64 x.kind, .int .i64 x.i, .int .i64 x.g, .int .i64 x.n] 31 (0, 0))) := by rw [hw4]; exact heap_alloc_new wr _
          have HW4 := hid hw4
          have HWF := hid hwf
          have HOK := hid X4.out.bg.ok
          have hl9 : Hid (l.length ≤ 900) := by have := HLEN.out; show _ ≤ _; omega
          clear hx hwf hw4 HX
          go_upto_block 2 with fail
          rw [← HW4.out]
          clear HW4 c0 c1 c2 c3
          generalize wr.heap.size = bx at A4 ⊢
          go_cut [7, 8, 9, 10, 11, 12, 13, 14, 15, 16, 17, 18, 19, 20] from 33 to 194 (fun f g _ _ _ _ _ _ _ _ _ _ _ _ wx => ∃ (k : Nat) (n' : Int) (l' : Prs) (v' : Value), g = .int .i64 (k : Int) ∧ Hid (Rnd Ad w1 bb ob nb ub bx x q f k n' l' v' wx))
          case first =>
            have y0 : w4.cell? ⟨bx, 0, none⟩ = some (.int .i64 x.kind) := cell_blk A4.out rfl
            have y1 : w4.cell? ⟨bx, 1, none⟩ = some (.int .i64 x.i) := cell_blk A4.out rfl
            have y2 : w4.cell? ⟨bx, 2, none⟩ = some (.int .i64 x.g) := cell_blk A4.out rfl
            have y3 : w4.cell? ⟨bx, 3, none⟩ = some (.int .i64 x.n) := cell_blk A4.out rfl
            by_cases hk1 : x.kind = 1
            · have q1 : (x.kind == 1) = true := by simp [hk1]
              obtain ⟨r1, r2, r3, r4, hr⟩ : ∃ r1 r2 r3 r4, giveR n l x.i x.g = (r1, r2, r3, r4) := ⟨_, _, _, _, rfl⟩
              have cp := c_give X4.out (env_five E1.out) x.i x.g HWF.out.2.1 HWF.out.2.2.1 hr
              dsimp only at cp
              have CP := hid cp
              have HR := hid hr
              have RL : Hid (r4.length ≤ q + 1) := by show _ ≤ _; have := give_len n l x.i x.g; rw [hr] at this; have := HLEN.out; dsimp only at *; omega
              clear cp
              clear hk1 hr
              go_wp2_with fail
              refine CP.out.mono ?_
              rintro e w5 ⟨u5, rfl, n5, x5, k5⟩
              have X5 := hid x5
              have N5 := hid n5
              have A5 := hid (k5.act A4.out)
              have dp := d_give X5.out HOK.out hl9.out x.i x.g HWF.out.2.1 HWF.out.2.2.1 HR.out
              dsimp only at dp
              have DP := hid dp
              clear dp
              have z1 : w5.cell? ⟨bx, 1, none⟩ = some (.int .i64 x.i) := cell_blk A5.out rfl
              have z2 : w5.cell? ⟨bx, 2, none⟩ = some (.int .i64 x.g) := cell_blk A5.out rfl
              clear CP x5 n5 k5 y0 y1 y2 y3
              go_wp2_with fail
              refine DP.out.mono ?_
              rintro e w6 ⟨rfl, ⟨v6, x6⟩, k6, b6⟩
              have R6 : Hid (Rnd Ad w1 bb ob nb ub bx x q u5 r2 r3 r4 v6 w6) := ⟨x6, k6.act A5.out, N5.out.keep b6, RL.out⟩
              clear DP x6 k6 b6 z1 z2
              go_wp2_with fail
              go_meet
              exact ⟨r2, _, _, v6, rfl, R6.out⟩
            · have q1 : (x.kind == 1) = false := by simp [hk1]
              clear hk1
              by_cases hk2 : x.kind = 2
              · have q2 : (x.kind == 2) = true := by simp [hk2]
                obtain ⟨r1, r2, hr⟩ : ∃ r1 r2, pinR n l x.n x.i x.g = (r1, r2) := ⟨_, _, rfl⟩
                have cp := c_pin X4.out (env_five E1.out) x.n x.i x.g HWF.out.2.2.2 HWF.out.2.1 HWF.out.2.2.1 hr
                dsimp only at cp
                have CP := hid cp
                have HR := hid hr
                have RL : Hid (r2.length ≤ q + 1) := by show _ ≤ _; have := pin_len n l x.n x.i x.g; rw [hr] at this; have := HLEN.out; dsimp only at *; omega
                clear cp
                clear hk2 hr
                go_wp2_with fail
                refine CP.out.mono ?_
                rintro e w5 ⟨u5, rfl, n5, x5, k5⟩
                have X5 := hid x5
                have N5 := hid n5
                have A5 := hid (k5.act A4.out)
                have dp := d_pin X5.out HOK.out hl9.out x.n x.i x.g HWF.out.2.1 HWF.out.2.2.1 HR.out
                dsimp only at dp
                have DP := hid dp
                clear dp
                have z1 : w5.cell? ⟨bx, 1, none⟩ = some (.int .i64 x.i) := cell_blk A5.out rfl
                have z2 : w5.cell? ⟨bx, 2, none⟩ = some (.int .i64 x.g) := cell_blk A5.out rfl
                have z3 : w5.cell? ⟨bx, 3, none⟩ = some (.int .i64 x.n) := cell_blk A5.out rfl
                clear CP x5 n5 k5 y0 y1 y2 y3
                go_wp2_with fail
                refine DP.out.mono ?_
                rintro e w6 ⟨rfl, ⟨v6, x6⟩, k6, b6⟩
                have R6 : Hid (Rnd Ad w1 bb ob nb ub bx x q u5 r1 n r2 v6 w6) := ⟨x6, k6.act A5.out, N5.out.keep b6, RL.out⟩
                clear DP x6 k6 b6 z1 z2 z3
                go_wp2_with fail
                go_meet
                exact ⟨r1, _, _, v6, rfl, R6.out⟩
              · have q2 : (x.kind == 2) = false := by simp [hk2]
                clear hk2
                by_cases hk3 : x.kind = 3
                · have q3 : (x.kind == 3) = true := by simp [hk3]
                  obtain ⟨e1, e2, r2, r3, hr⟩ : ∃ e1 e2 r2 r3, dropR l x.n = ((e1, e2), r2, r3) := ⟨_, _, _, _, rfl⟩
                  have cp := c_drop X4.out (env_five E1.out) x.n HWF.out.2.2.2 hr
                  dsimp only at cp
                  have CP := hid cp
                  have HR := hid hr
                  have RL : Hid (r3.length ≤ q + 1) := by show _ ≤ _; have := drop_len l x.n; rw [hr] at this; have := HLEN.out; dsimp only at *; omega
                  have ew := drop_wf HOK.out x.n
                  rw [hr] at ew
                  dsimp only at ew
                  have NQ := fun w => neq_same e1 e2 ew.1 ew.2 w
                  clear hk3 hr ew cp
                  go_wp2_with fail
                  refine CP.out.mono ?_
                  rintro e w5 ⟨u5, rfl, n5, x5, k5⟩
                  obtain ⟨w6, hw6⟩ : ∃ w6, w6 = w5.alloc (.cells #[.int .i64 e1, .int .i64 e2] 29) := ⟨_, rfl⟩
                  have b6 : Below w5.heap.size w5 w6 := by rw [hw6]; exact bAl _ _
                  have R6 : Hid (w6.heap[w5.heap.size]? = some (.cells #[.int .i64 e1, .int .i64 e2] 29 (0, 0))) := by rw [hw6]; exact heap_alloc_new w5 _
                  have X6 := hid (x5.later b6)
                  have N6 := hid (n5.later b6)
                  have A6 := hid (blk_seen b6 (Nat.le_refl _) (k5.act A4.out))
                  have HW6 := hid hw6
                  have dp := d_drop X6.out hl9.out x.n HR.out
                  dsimp only at dp
                  have DP := hid dp
                  have z3 : w6.cell? ⟨bx, 3, none⟩ = some (.int .i64 x.n) := cell_blk A6.out rfl
                  clear CP x5 n5 k5 y0 y1 y2 y3 hw6 b6 dp
                  go_upto_region 30 with fail
                  rw [← HW6.out]
                  clear HW6
                  generalize w5.heap.size = e5 at *
                  go_wp2_with fail
                  refine DP.out.mono ?_
                  rintro e w7 ⟨rfl, ⟨v7, x7⟩, k7, b7⟩
                  obtain ⟨w8, hw8⟩ : ∃ w8, w8 = w7.alloc (.cells #[.int .i64 e1, .int .i64 e2] 29) := ⟨_, rfl⟩
                  have b8 : Below w7.heap.size w7 w8 := by rw [hw8]; exact bAl _ _
                  have r8 : w8.heap[w7.heap.size]? = some (.cells #[.int .i64 e1, .int .i64 e2] 29 (0, 0)) := by rw [hw8]; exact heap_alloc_new w7 _
                  have R8 : Hid (Rnd Ad w1 bb ob nb ub bx x q u5 r2 n r3 v7 w8) := ⟨x7.later b8, blk_seen b8 (Nat.le_refl _) (k7.act A6.out), (N6.out.keep b7).later b8, RL.out⟩
                  have s6 := blk_seen b8 (Nat.le_refl _) (k7.ent R6.out)
                  have f0 : w8.cell? ⟨e5, 0, none⟩ = some (.int .i64 e1) := cell_blk s6 rfl
                  have f1 : w8.cell? ⟨e5, 1, none⟩ = some (.int .i64 e2) := cell_blk s6 rfl
                  have g0 : w8.cell? ⟨w7.heap.size, 0, none⟩ = some (.int .i64 e1) := cell_blk r8 rfl
                  have g1 : w8.cell? ⟨w7.heap.size, 1, none⟩ = some (.int .i64 e2) := cell_blk r8 rfl
                  have HW8 := hid hw8
                  clear DP x7 k7 b7 z3 hw8 b8 r8 s6
                  go_upto_region 31 with fail
                  rw [← HW8.out]
                  clear HW8
                  generalize w7.heap.size = e7 at *
                  go_wp2_with fail
                  go_meet
                  exact ⟨r2, _, _, v7, rfl, R8.out⟩
                · have q3 : (x.kind == 3) = false := by simp [hk3]
                  obtain ⟨r1, r2, r3, hr⟩ : ∃ r1 r2 r3, turnR n l x.n = (r1, r2, r3) := ⟨_, _, _, rfl⟩
                  have cp := c_turn X4.out (env_five E1.out) x.n hr
                  dsimp only at cp
                  have CP := hid cp
                  have HR := hid hr
                  have RL : Hid (l.length ≤ q + 1) := by show _ ≤ _; have := HLEN.out; omega
                  clear hk3 hr cp
                  go_wp2_with fail
                  refine CP.out.mono ?_
                  rintro e w5 ⟨u5, rfl, n5, x5, k5⟩
                  have X5 := hid x5
                  have N5 := hid n5
                  have A5 := hid (k5.act A4.out)
                  have dp := d_turn X5.out HOK.out hl9.out x.n HR.out
                  dsimp only at dp
                  have DP := hid dp
                  have z3 : w5.cell? ⟨bx, 3, none⟩ = some (.int .i64 x.n) := cell_blk A5.out rfl
                  clear CP x5 n5 k5 y0 y1 y2 y3 dp
                  go_wp2_with fail
                  refine DP.out.mono ?_
                  rintro e w6 ⟨rfl, ⟨v6, x6⟩, k6, b6⟩
                  have R6 : Hid (Rnd Ad w1 bb ob nb ub bx x q u5 r2 r3 l v6 w6) := ⟨x6, k6.act A5.out, N5.out.keep b6, RL.out⟩
                  clear DP x6 k6 b6 z3
                  go_wp2_with fail
                  go_meet
                  exact ⟨r2, _, _, v6, rfl, R6.out⟩
          case rest =>
            rename World => wx
            obtain ⟨k, n', l', v', rfl, HR⟩ := hcut
            clear X4 A4 HOK hl9 HLEN
            have EN := hid (ent_any HR.out.ex.bg x.n HWF.out.2.2.2)
            have ew := entO_wf HR.out.ex.bg.ok x.n
            obtain ⟨e1, e2, HE12⟩ : ∃ e1 e2, Hid (entO (who l' x.n) = (e1, e2)) := ⟨_, _, rfl⟩
            obtain ⟨t1, HT1⟩ : ∃ t1, Hid ((who l' x.n).isSome = t1) := ⟨_, rfl⟩
            obtain ⟨t2, HT2⟩ : ∃ t2, Hid ((num l' (x.i, x.g)).isSome = t2) := ⟨_, rfl⟩
            obtain ⟨m2, HM2⟩ : ∃ m2, Hid ((num l' (x.i, x.g)).getD 0 = m2) := ⟨_, rfl⟩
            rw [HE12.out, HT1.out] at EN
            rw [HE12.out] at ew
            dsimp only at ew
            have NQ := fun w => neq_same e1 e2 ew.1 ew.2 w
            have y3 : wx.cell? ⟨bx, 3, none⟩ = some (.int .i64 x.n) := cell_blk HR.out.act rfl
            clear ew
            go_wp2_with fail
            refine EN.out.mono ?_
            rintro e w5 ⟨rfl, b5⟩
            obtain ⟨w6, hw6⟩ : ∃ w6, w6 = w5.alloc (.cells #[.int .i64 e1, .int .i64 e2] 29) := ⟨_, rfl⟩
            have b6 : Below w5.heap.size w5 w6 := by rw [hw6]; exact bAl _ _
            have R6 : Hid (w6.heap[w5.heap.size]? = some (.cells #[.int .i64 e1, .int .i64 e2] 29 (0, 0))) := by rw [hw6]; exact heap_alloc_new w5 _
            have B6 := hid (b5.trans (b6.mono b5.size))
            have HW6 := hid hw6
            have RE := hid (rent_any (HR.out.ex.later B6.out).rb x.n (by have := HR.out.len; omega))
            rw [HE12.out, HT1.out] at RE
            have z3 : w6.cell? ⟨bx, 3, none⟩ = some (.int .i64 x.n) := cell_blk (blk_seen B6.out (Nat.le_refl _) HR.out.act) rfl
            clear EN b5 hw6 b6 y3
            go_upto_region 36 with fail
            rw [← HW6.out]
            clear HW6
            generalize w5.heap.size = e5 at *
            go_wp2_with fail
            refine RE.out.mono ?_
            rintro e w7 ⟨rfl, b7⟩
            obtain ⟨w8, hw8⟩ : ∃ w8, w8 = w7.alloc (.cells #[.int .i64 e1, .int .i64 e2] 29) := ⟨_, rfl⟩
            have b8 : Below w7.heap.size w7 w8 := by rw [hw8]; exact bAl _ _
            have R8 : Hid (w8.heap[w7.heap.size]? = some (.cells #[.int .i64 e1, .int .i64 e2] 29 (0, 0))) := by rw [hw8]; exact heap_alloc_new w7 _
            have b68 := b7.trans (b8.mono b7.size)
            have S8 := hid (blk_seen b68 (Nat.le_refl _) R6.out)
            have B8 := hid (B6.out.trans (b68.mono B6.out.size))
            have HW8 := hid hw8
            have IDC := hid (id_any (HR.out.ex.later B8.out).bg x.i x.g HWF.out.2.1 HWF.out.2.2.1)
            rw [HT2.out, HM2.out] at IDC
            have a8 := blk_seen B8.out (Nat.le_refl _) HR.out.act
            have z1 : w8.cell? ⟨bx, 1, none⟩ = some (.int .i64 x.i) := cell_blk a8 rfl
            have z2 : w8.cell? ⟨bx, 2, none⟩ = some (.int .i64 x.g) := cell_blk a8 rfl
            clear RE b7 hw8 b8 b68 z3 a8 R6
            go_upto_region 37 with fail
            rw [← HW8.out]
            clear HW8
            generalize w7.heap.size = e7 at *
            go_wp2_with fail
            refine IDC.out.mono ?_
            rintro e w9 ⟨rfl, b9⟩
            have B9 := hid (B8.out.trans (b9.mono B8.out.size))
            have C9 := hid b9
            have RID := hid (rid_any (HR.out.ex.later B9.out).rb x.i x.g HWF.out.2.1 HWF.out.2.2.1 HR.out.ex.bg.ok.i64 (by have := HR.out.len; omega))
            rw [HT2.out, HM2.out] at RID
            have a9 := blk_seen B9.out (Nat.le_refl _) HR.out.act
            have z1 : w9.cell? ⟨bx, 1, none⟩ = some (.int .i64 x.i) := cell_blk a9 rfl
            have z2 : w9.cell? ⟨bx, 2, none⟩ = some (.int .i64 x.g) := cell_blk a9 rfl
            clear IDC b9 a9
            go_wp2_with fail
            refine RID.out.mono ?_
            rintro e w10 ⟨rfl, b10⟩
            have B10 := hid (B9.out.trans (b10.mono B9.out.size))
            have C10 := hid (C9.out.trans (b10.mono C9.out.size))
            have X10 := hid (HR.out.ex.later B10.out)
            obtain ⟨sa, sc, hsl⟩ := X10.out.rb.row.slice
            have KK : Hid (∀ W', Below w10.heap.size w10 W' → W'.cell? ⟨e5, 0, none⟩ = some (.int .i64 e1) ∧ W'.cell? ⟨e5, 1, none⟩ = some (.int .i64 e2) ∧ W'.cell? ⟨e7, 0, none⟩ = some (.int .i64 e1) ∧ W'.cell? ⟨e7, 1, none⟩ = some (.int .i64 e2) ∧ W'.cell? ⟨ub, 0, none⟩ = some (.slice sa l'.length sc) ∧ W'.cell? ⟨ub, 1, none⟩ = some (.int .i64 n')) := fun W' hb => by
              have c := C10.out.trans (hb.mono C10.out.size)
              have q1 := blk_seen c (Nat.le_refl _) S8.out
              have q2 := blk_seen c (Nat.le_refl _) R8.out
              have q3 := (X10.out.later hb).rb
              exact ⟨cell_blk q1 rfl, cell_blk q1 rfl, cell_blk q2 rfl, cell_blk q2 rfl, by rw [← hsl]; exact q3.c0, q3.c1⟩
            have NU : Hid (∀ W', Below w10.heap.size w10 W' → Calls Tryd.prog 19 #[_] W' fun e w' => e = .returned (.int .i64 (k : Int)) ∧ Below w10.heap.size w10 w') := fun W' hb => (number_any Ad ((HR.out.num.later B10.out).later hb) ((E1.out.later (X10.out.bel)).later hb)).mono fun _ _ ⟨q1, q2⟩ => ⟨q1, hb.trans (q2.mono hb.size)⟩
            have NX : Hid (∀ W', Below w10.heap.size w10 W' → Calls Tryd.prog 20 #[.pointer (some ⟨bb, 0, none⟩)] W' fun e w' => e = .returned (.int .i64 n') ∧ w' = W') := fun W' hb => next_any (X10.out.later hb).bg
            have LN : Hid (∀ W', Below w10.heap.size w10 W' → Calls Tryd.prog 21 #[.pointer (some ⟨bb, 0, none⟩)] W' fun e w' => e = .returned (.int .i64 (l'.length : Int)) ∧ w' = W') := fun W' hb => len_any (X10.out.later hb).bg
            have hd0 := Below.refl w10.heap.size w10
            have hd1 : Below w10.heap.size w10 w10.drew := (Below.refl _ _).drew
            clear RID b10 z1 z2 hsl S8 R8 C9 C10 B6 B8 B9 HE12 HT1 HT2 HM2
            go_upto_region 39 with fail
            go_region_held3 (fun W' => W'.cell? ⟨e5, 0, none⟩ = some (.int .i64 e1) ∧ W'.cell? ⟨e5, 1, none⟩ = some (.int .i64 e2) ∧ W'.cell? ⟨e7, 0, none⟩ = some (.int .i64 e1) ∧ W'.cell? ⟨e7, 1, none⟩ = some (.int .i64 e2) ∧ W'.cell? ⟨ub, 0, none⟩ = some (.slice sa l'.length sc) ∧ W'.cell? ⟨ub, 1, none⟩ = some (.int .i64 n'))
              (exact KK.out _ (by assumption))
              (first
                | (go_at_call 19; refine (NU.out _ (by assumption)).mono ?_; rintro e w11 ⟨rfl, hd11⟩)
                | (go_at_call 20; refine (NX.out _ (by assumption)).mono ?_; rintro e w12 ⟨rfl, hq12⟩; obtain rfl := hq12.symm)
                | (go_at_call 21; refine (LN.out _ (by assumption)).mono ?_; rintro e w13 ⟨rfl, hq13⟩; obtain rfl := hq13.symm))
            have X11 := hid (X10.out.later hd11)
            have L11 := hid HR.out.len
            clear NU NX LN KK hd11 hd0 hd1 NQ X10 B10 HR
            go_wp2_with fail
            go_roundg (200 - (q + 1))
            case measure => omega
            case rel => exact ⟨q + 1, by omega, rfl, by go_num, n', l', v', X11.out, L11.out⟩
        · have h2i : ¬ ((q : Int) < 200) := by omega
          have L2 : Hid (l.length ≤ 200) := by have := HLEN.out; show _ ≤ _; omega
          go_wp2_with fail
          go_meet
          exact ⟨n, l, v, HX.out, L2.out⟩
      · have h1i : ¬ ((q : Int) < (cl.length : Int)) := by omega
        have L2 : Hid (l.length ≤ 200) := by have := HLEN.out; show _ ≤ _; omega
        go_wp2_with fail
        go_meet
        exact ⟨n, l, v, HX.out, L2.out⟩
  case rest =>
    clear X3
    rename World => wo
    obtain ⟨n, l, v, HX, HL⟩ := hcut
    have LS := hid (list_any HX.out.bg)
    go_wp2_with fail
    refine LS.out.mono ?_
    rintro e w7 ⟨v7, rfl, hr7, hb7⟩
    have hr7' : w7.ownsRow wo.heap.size 3 1 v7 (ids l).length ((ids l).map Go.encZ) := by rw [show (ids l).length = l.length by simp [ids]]; exact hr7
    have I7 := hid (irow_of hr7')
    have X7 := hid (HX.out.later hb7)
    have RL := hid (rlist_any X7.out.rb (by have := HL.out; omega))
    obtain ⟨la, lc, rfl⟩ : ∃ la lc, v7 = .slice la (ids l).length lc := by
      obtain ⟨la, lc, q1, -⟩ := I7.out
      exact ⟨la, lc, q1⟩
    have hq : Hid ((ids l).length ≤ 1000) := by show _ ≤ _; rw [show (ids l).length = l.length by simp [ids]]; have := HL.out; omega
    clear LS hr7 hr7' hb7
    go_wp2_with fail
    refine RL.out.mono ?_
    rintro e w8 ⟨v8, rfl, hi8, hb8⟩
    have X8 := hid (X7.out.later hb8)
    have SM := hid (same_any w8 _ v8 (ids l) (I7.out.later hb8) hi8 hq.out)
    obtain ⟨la2, lc2, rfl⟩ : ∃ la lc, v8 = .slice la (ids l).length lc := by
      obtain ⟨la, lc, q1, -⟩ := hi8
      exact ⟨la, lc, q1⟩
    clear RL hi8 hb8 I7
    go_wp2_with fail
    refine SM.out.mono ?_
    rintro e w9 ⟨rfl, hb9⟩
    have B9 := hid (B1.out.trans ((X8.out.later hb9).bel.mono B1.out.size))
    clear SM hb9
    go_wp2_with fail
    go_ret
    exact ⟨rfl, B9.out⟩
end Go.Proofs.YtiebbedpjogjfaaDoor.Bd
