/- Texts in one. -/
import Derived.Lib.SliceRun
import Derived.BigQuiet
import Derived.Test.YthadfdbkkmmgoaaGreatDoorMam
namespace Go.Proofs.YthadfdbkkmmgoaaGreatDoor.Or
open Go.RowKit Go.Shelf Go.Maps
open Go.Proofs.YthadfdbkkmmgoaaGreatDoor.At (St bAl cell_blk blk_seen blk_free)
open Go.Proofs.YthadfdbkkmmgoaaGreatDoor.Sc (Cmp CmpRow)
open Go.Proofs.YthadfdbkkmmgoaaGreatDoor.Rs (Prt Prts fitP)
open Go.Proofs.YthadfdbkkmmgoaaGreatDoor.So (chkL)
open Go.Proofs.YthadfdbkkmmgoaaGreatDoor.Co (I64)
open Go.Proofs.YthadfdbkkmmgoaaGreatDoor.Wo (Fin Up Ed at_es at_ed Ev st_mono WK AP Wa GoA PFree)
/-- What a command does to a world. -/
def doA (k : WK) (a : AP) (y : Od) : Nat × AP :=
  if y.k = 1 then ((a.spawn k (begunL k.x.cs y.m a.fr)).1, (a.spawn k (begunL k.x.cs y.m a.fr)).2.1)
  else if y.k = 2 then a.despawn y.id
  else if y.k = 3 then a.insert k y.id y.c
  else a.remove y.id y.c
/-- A world and commands beside it. -/
structure Pr (B : Nat) (G H : Wo.Own) (W : World) (wb ob : Nat) (kv ov : Value) (k : WK) (t : Nat) (a : AP) (x : OP) : Prop where
  wa : Wa B G W wb k t a
  oz : Oz B H W ob kv ov x
  dj : ∀ j, G j ≠ 0 → H j = 0
  cs : k.x.cs = x.cs
section
variable {B : Nat} {G H G' H' : Wo.Own} {W W' : World} {wb ob : Nat} {kv ov : Value} {k : WK} {t : Nat} {a a' : AP} {x x' : OP} {Ad : Nat → Addr}
theorem Pr.later (h : Pr B G H W wb ob kv ov k t a x) (hb : Below W.heap.size W W') : Pr B G H W' wb ob kv ov k t a x := ⟨h.wa.later hb, h.oz.later hb, h.dj, h.cs⟩
/-- The world's step. -/
theorem Pr.world {t' : Nat} (h : Pr B G H W wb ob kv ov k t a x) (hu : Up (fun i => 1 ≤ i ∧ i ≤ 3) G G' W W') (hw : Wa B G' W' wb k t' a') : Pr B G' H W' wb ob kv ov k t' a' x :=
  ⟨hw, h.oz.kept hu.st fun j hj q => hj (h.dj j (by omega)), fun j hj => by
    by_cases e : j < W.heap.size
    · exact h.dj j (by rw [← hu.old j e]; exact hj)
    · exact Classical.byContradiction fun q => e (h.oz.fin j q).2, h.cs⟩
/-- The commands' step. -/
theorem Pr.orders {ov' : Value} (h : Pr B G H W wb ob kv ov k t a x) (hu : Up C47 H H' W W') (ho : Oz B H' W' ob kv ov' x') (hc : x'.cs = x.cs) : Pr B G H' W' wb ob kv ov' k t a x' :=
  ⟨h.wa.beside hu.st fun j hj q => by have := h.dj j hj; rcases q with q | q <;> omega, ho, fun j hj => by
    have hl := (h.wa.fin j hj).2
    rw [hu.old j hl]
    exact h.dj j hj, by rw [hc]; exact h.cs⟩
theorem fr64 (h : Wa B G W wb k t a) : I64 a.fr := by
  obtain ⟨⟨p, h1, -, -, -, -, -, h2, -⟩, -⟩ := h
  rw [← h2]
  exact Bd.I64_mid (by have := h1.z.fr0; omega) (by have := h1.z.fr0; omega)
set_option maxHeartbeats 3200000 in
theorem do_spawn (h : Pr B G H W wb ob kv ov k t a x) (hE : Ev B W Ad) (ht : t ≤ 900) (hn : a.n ≤ 1073741824) (id m c : Int) (m' : Nat) (em : m = (m' : Int)) (hm : m' < 2 ^ x.cs.length) (hm32 : m' < 4294967296) :
    Calls Tryz.prog 53 #[.pointer (some ⟨ob, 0, none⟩), .pointer (some ⟨wb, 0, none⟩), .agg #[.int .i64 1, .int .i64 id, .int .u32 m, .int .i64 c]] W fun e W' => ∃ r, e = .returned r ∧ Ed Ad W' r (a.spawn k (begunL k.x.cs m' a.fr)).1 11 ∧ GoA B G W W' wb k (t + 1) (a.spawn k (begunL k.x.cs m' a.fr)).2.1 := by
  subst em
  obtain ⟨wa, hwa⟩ : ∃ wa, wa = W.alloc (.cells #[.int .i64 1, .int .i64 id, .int .u32 (m' : Int), .int .i64 c] 48) := ⟨_, rfl⟩
  have ba : Below W.heap.size W wa := by rw [hwa]; exact bAl _ _
  have ra : wa.heap[W.heap.size]? = some (.cells #[.int .i64 1, .int .i64 id, .int .u32 (m' : Int), .int .i64 c] 48 (0, 0)) := by rw [hwa]; exact heap_alloc_new W _
  have ha := h.later ba
  have hEa := hE.later ba
  have hcs := h.cs
  have KK : Hid (∀ W', Below wa.heap.size wa W' → W'.cell? ⟨W.heap.size, 2, none⟩ = some (.int .u32 (m' : Int))) := hid fun W' hb => cell_blk (blk_seen hb (Nat.le_refl _) ra) rfl
  have FR : Hid (∀ w, Below wa.heap.size wa w → Calls Tryz.prog 96 #[.pointer (some ⟨wb, 0, none⟩)] w fun e w' => e = .returned (.int .i64 a.fr) ∧ w' = w) := hid fun w hb => Wo.frame_any (ha.wa.later hb)
  have BG : Hid (∀ w, Below wa.heap.size wa w → Calls Tryz.prog 95 #[.pointer (some ⟨ob, 0, none⟩), .int .u32 (m' : Int), .int .i64 a.fr] w fun e w' => ∃ bv, e = .returned bv ∧ Below wa.heap.size wa w' ∧ Below w'.heap.size w' w' ∧ Below w'.heap.size w' w'.drew ∧ Hid (Prts wa.heap.size w' bv (begunL k.x.cs m' a.fr))) := hid fun w hb => by
    refine (begun_any (ha.oz.later hb) m' hm hm32 a.fr).mono ?_
    rintro e w' ⟨bv, rfl, q1, q2⟩
    rw [hcs]
    exact ⟨bv, rfl, hb.trans (q2.mono hb.size), Below.refl _ _, (Below.refl _ _).drew, q1.lower hb.size⟩
  have SP : Hid (∀ (w4 w : World) (bv : Value), Below wa.heap.size wa w4 → Hid (Prts wa.heap.size w4 bv (begunL k.x.cs m' a.fr)) → Below w4.heap.size w4 w → Calls Tryz.prog 34 #[.pointer (some ⟨wb, 0, none⟩), bv] w fun e w' => ∃ r, e = .returned (.tuple #[.int .i64 (a.spawn k (begunL k.x.cs m' a.fr)).2.2, r]) ∧ w'.cell? ⟨W.heap.size, 2, none⟩ = some (.int .u32 (m' : Int)) ∧ Hid (Ed Ad w' r (a.spawn k (begunL k.x.cs m' a.fr)).1 11 ∧ GoA B G W w' wb k (t + 1) (a.spawn k (begunL k.x.cs m' a.fr)).2.1)) := hid fun w4 w bv hb hp hb2 => by
    have hb3 := hb.trans (hb2.mono hb.size)
    have hp2 := hp.out.later hb2
    refine (Wo.spawn_any (ha.wa.later hb3) (hEa.later hb3) ht (PFree.of hp2.row fun b o q => ?_) (Nat.le_trans (begun_len _ _ _) (by decide)) (by have q := begun_chk (fr := a.fr) ha.wa.ok hcs hm; rw [← hcs] at q; exact q) (fun p hp => by rw [begun_tick (by rw [hcs]; exact hm) p hp]; exact fr64 ha.wa) hn).mono ?_
    · obtain ⟨n, c, rfl⟩ := q
      have := (hp2.lt b rfl).1
      exact Classical.byContradiction fun e => by have := (ha.wa.fin b e).2; omega
    · rintro e w' ⟨r, rfl, q1, q2⟩
      have gN : G W.heap.size = 0 := Classical.byContradiction fun e => by have := (h.wa.fin _ e).2; omega
      refine ⟨r, rfl, ?_, q1, GoA.after h.wa.fin (ba.trans (hb3.mono ba.size)) q2⟩
      obtain ⟨G', u, -⟩ := q2
      exact cell_blk (u.at (blk_seen hb3 (Nat.le_refl _) ra) (by rw [gN]; decide)).1 rfl
  generalize (a.spawn k (begunL k.x.cs m' a.fr)) = SA at *
  generalize begunL k.x.cs m' a.fr = bl at *
  generalize a.fr = fr at *
  have HWA := hid hwa
  have y0 : wa.cell? ⟨W.heap.size, 0, none⟩ = some (.int .i64 1) := cell_blk ra rfl
  have k0 : Below wa.heap.size wa wa := Below.refl _ _
  have k0d := k0.drew
  have k2 := KK.out wa k0
  clear h hE ha hEa hcs hm hm32 ht hn ra hwa ba
  go_enter Tryz.func53, Tryz.ntmps53
  go_upto_region 1 with fail
  rw [← HWA.out]
  go_upto_region 3 with fail
  go_region_held3 (fun W' => W'.cell? ⟨W.heap.size, 2, none⟩ = some (.int .u32 (m' : Int)))
    (first | (with_reducible assumption) | (refine KK.out _ ?_; with_reducible assumption) | fail)
    (first
      | (go_at_call 96; refine (FR.out _ ?_).mono ?_; (with_reducible assumption); rintro e w3 ⟨rfl, rfl⟩)
      | (go_at_call 95; refine (BG.out _ ?_).mono ?_; (with_reducible assumption); rintro e w4 ⟨bv, rfl, b4, b40, b40d, hp4⟩)
      | (go_at_call 34; refine (SP.out w4 _ _ b4 hp4 ?_).mono ?_; (with_reducible assumption); rintro e w5 ⟨r, rfl, hS5, HE⟩)
      | fail)
  all_goals
    go_wp2_with fail
    go_ret
    exact ⟨_, rfl, HE.out⟩
set_option maxHeartbeats 3200000 in
theorem do_any (h : Pr B G H W wb ob kv ov k t a x) (hE : Ev B W Ad) (ht : t ≤ 900) (hn : a.n ≤ 1073741824) (y : Od) (hy : y.ok) (hc : y.can x.cs.length = true) :
    Calls Tryz.prog 53 #[.pointer (some ⟨ob, 0, none⟩), .pointer (some ⟨wb, 0, none⟩), .agg #[.int .i64 y.k, .int .i64 y.id, .int .u32 (y.m : Int), .int .i64 y.c]] W fun e W' => ∃ r, e = .returned r ∧ Ed Ad W' r (doA k a y).1 11 ∧ GoA B G W W' wb k (t + 1) (doA k a y).2 := by
  obtain ⟨kk, id, m, c⟩ := y
  unfold Od.can at hc
  unfold doA
  simp only at hc ⊢
  by_cases h1 : kk = 1
  · subst h1
    simp only [if_true] at hc ⊢
    exact do_spawn h hE ht hn id _ c m rfl (by simpa using hc) hy.m
  · rw [if_neg h1] at hc ⊢
    obtain ⟨wa, hwa⟩ : ∃ wa, wa = W.alloc (.cells #[.int .i64 kk, .int .i64 id, .int .u32 (m : Int), .int .i64 c] 48) := ⟨_, rfl⟩
    have ba : Below W.heap.size W wa := by rw [hwa]; exact bAl _ _
    have ra : wa.heap[W.heap.size]? = some (.cells #[.int .i64 kk, .int .i64 id, .int .u32 (m : Int), .int .i64 c] 48 (0, 0)) := by rw [hwa]; exact heap_alloc_new W _
    have ha := h.later ba
    have hEa := hE.later ba
    have HF := hid fun (w' : World) (a' : AP) (hg : GoA B G wa w' wb k t a') => (GoA.after h.wa.fin ba hg).older (Nat.le_succ t)
    have y0 : wa.cell? ⟨W.heap.size, 0, none⟩ = some (.int .i64 kk) := cell_blk ra rfl
    have y1 : wa.cell? ⟨W.heap.size, 1, none⟩ = some (.int .i64 id) := cell_blk ra rfl
    have y3 : wa.cell? ⟨W.heap.size, 3, none⟩ = some (.int .i64 c) := cell_blk ra rfl
    have DS := hid (Wo.despawn_any ha.wa hEa id hy.id)
    have IN := hid (Wo.insert_any ha.wa hEa id c hy.id)
    have RM := hid (Wo.remove_any ha.wa hEa id c hy.id hy.c)
    have HWA := hid hwa
    clear h hE ha hEa ht hn ra hwa ba hy
    by_cases h2 : kk = 2
    · subst h2
      rw [if_pos rfl]
      go_enter Tryz.func53, Tryz.ntmps53
      go_upto_region 1 with fail
      rw [← HWA.out]
      go_wp2_with fail
      refine DS.out.mono ?_
      rintro e w2 ⟨r, rfl, q1, q2⟩
      have HE := hid q1
      have HG := hid (HF.out _ _ q2)
      clear q1 q2
      go_wp2_with fail
      go_ret
      exact ⟨_, rfl, HE.out, HG.out⟩
    · rw [if_neg h2]
      by_cases h3 : kk = 3
      · subst h3
        rw [if_pos rfl]
        go_enter Tryz.func53, Tryz.ntmps53
        go_upto_region 1 with fail
        rw [← HWA.out]
        go_wp2_with fail
        refine IN.out.mono ?_
        rintro e w2 ⟨r, rfl, q1, q2⟩
        have HE := hid q1
        have HG := hid (HF.out _ _ q2)
        clear q1 q2
        go_wp2_with fail
        go_ret
        exact ⟨_, rfl, HE.out, HG.out⟩
      · rw [if_neg h3]
        go_enter Tryz.func53, Tryz.ntmps53
        go_upto_region 1 with fail
        rw [← HWA.out]
        go_wp2_with fail
        refine RM.out.mono ?_
        rintro e w2 ⟨r, rfl, q1, q2⟩
        have HE := hid q1
        have HG := hid (HF.out _ _ q2)
        clear q1 q2
        go_wp2_with fail
        go_ret
        exact ⟨_, rfl, HE.out, HG.out⟩
end
end Go.Proofs.YthadfdbkkmmgoaaGreatDoor.Or
namespace Go.Proofs.YthadfdbkkmmgoaaGreatDoor.Or
open Go.RowKit Go.Shelf Go.Maps
open Go.Proofs.YthadfdbkkmmgoaaGreatDoor.At (St bAl cell_blk blk_seen blk_free)
open Go.Proofs.YthadfdbkkmmgoaaGreatDoor.Sc (Cmp CmpRow)
open Go.Proofs.YthadfdbkkmmgoaaGreatDoor.Rs (Prt Prts fitP)
open Go.Proofs.YthadfdbkkmmgoaaGreatDoor.Co (I64)
open Go.Proofs.YthadfdbkkmmgoaaGreatDoor.Wo (Fin Up Ed at_es at_ed Ev st_mono WK AP Wa GoA PFree)
/-- How many were done, how many failed, and what comes of a world. -/
structure RA where
  d : Nat
  f : Nat
  a : AP
def stA (k : WK) (s : RA) (y : Od) : RA := if (doA k s.a y).1 = 0 then ⟨s.d + 1, s.f, (doA k s.a y).2⟩ else ⟨s.d, s.f + 1, (doA k s.a y).2⟩
def runA (k : WK) (a : AP) (L : List Od) : RA := L.foldl (stA k) ⟨0, 0, a⟩
theorem runA_next {k : WK} {a : AP} {L : List Od} {q : Nat} {y : Od} (h : L[q]? = some y) : runA k a (L.take (q + 1)) = stA k (runA k a (L.take q)) y := by
  unfold runA
  rw [List.take_add_one, h, Option.toList_some, List.foldl_append]
  rfl
theorem stA_sum (k : WK) (s : RA) (y : Od) : (stA k s y).d + (stA k s y).f = s.d + s.f + 1 := by
  unfold stA
  split <;> simp <;> omega
theorem runA_sum (k : WK) (a : AP) (L : List Od) : (runA k a L).d + (runA k a L).f = L.length := by
  have : ∀ (L : List Od) (s : RA), (L.foldl (stA k) s).d + (L.foldl (stA k) s).f = s.d + s.f + L.length := by
    intro L
    induction L with
    | nil => intro s; simp
    | cons y L ih => intro s; rw [List.foldl_cons, ih, stA_sum, List.length_cons]; omega
  have := this L ⟨0, 0, a⟩
  unfold runA
  simpa using this
theorem doA_n (k : WK) (a : AP) (y : Od) : a.n ≤ (doA k a y).2.n ∧ (doA k a y).2.n ≤ a.n + 1 ∧ (doA k a y).2.fr = a.fr := by
  unfold doA
  split
  · unfold AP.spawn
    split
    · exact ⟨by simp <;> omega, by simp <;> omega, rfl⟩
    · split
      · exact ⟨by simp <;> omega, by simp <;> omega, rfl⟩
      · exact ⟨by simp <;> omega, by simp <;> omega, rfl⟩
  · split
    · unfold AP.despawn
      split <;> exact ⟨by simp <;> omega, by simp <;> omega, rfl⟩
    · split
      · unfold AP.insert
        split
        · exact ⟨by simp <;> omega, by simp <;> omega, rfl⟩
        · split
          · exact ⟨by simp <;> omega, by simp <;> omega, rfl⟩
          · split <;> exact ⟨by simp <;> omega, by simp <;> omega, rfl⟩
      · unfold AP.remove
        split
        · exact ⟨by simp <;> omega, by simp <;> omega, rfl⟩
        · split <;> exact ⟨by simp <;> omega, by simp <;> omega, rfl⟩
theorem runA_n (k : WK) (a : AP) (L : List Od) : a.n ≤ (runA k a L).a.n ∧ (runA k a L).a.n ≤ a.n + L.length ∧ (runA k a L).a.fr = a.fr := by
  have : ∀ (L : List Od) (s : RA), s.a.n ≤ (L.foldl (stA k) s).a.n ∧ (L.foldl (stA k) s).a.n ≤ s.a.n + L.length ∧ (L.foldl (stA k) s).a.fr = s.a.fr := by
    intro L
    induction L with
    | nil => intro s; simp
    | cons y L ih =>
      intro s
      rw [List.foldl_cons, List.length_cons]
      obtain ⟨h1, h2, h3⟩ := ih (stA k s y)
      obtain ⟨q1, q2, q3⟩ := doA_n k s.a y
      have e : (stA k s y).a = (doA k s.a y).2 := by unfold stA; split <;> rfl
      rw [e] at h1 h2 h3
      refine ⟨by omega, by omega, by rw [h3, q3]⟩
  exact this L ⟨0, 0, a⟩
/-- A step of a world and commands: others' blocks stay. -/
structure Bs (G H G' H' : Wo.Own) (W W' : World) : Prop where
  st : St (fun j => G j ≠ 0 ∨ H j ≠ 0) W W'
  og : ∀ j, j < W.heap.size → G' j = G j
  oh : ∀ j, j < W.heap.size → H' j = H j
section
variable {B : Nat} {G H G' H' : Wo.Own} {W W' : World} {wb ob : Nat} {kv ov : Value} {k : WK} {t : Nat} {a a' : AP} {x x' : OP} {Ad : Nat → Addr}
theorem Pr.beside {T : Nat → Prop} (h : Pr B G H W wb ob kv ov k t a x) (hs : St T W W') (hg : ∀ j, G j ≠ 0 → ¬ T j) (hh : ∀ j, H j ≠ 0 → ¬ T j) : Pr B G H W' wb ob kv ov k t a x := ⟨h.wa.beside hs hg, h.oz.kept hs hh, h.dj, h.cs⟩
structure Fl (B : Nat) (G H : Wo.Own) (W : World) (wb ob : Nat) (kv ov : Value) (k : WK) (t : Nat) (a : AP) (x : OP) (G' : Wo.Own) (q : Nat) (wr : World) : Prop where
  pr : Pr B G' H wr wb ob kv ov k (t + q) (runA k a (x.L.take q)).a x
  b0 : wr.heap[W.heap.size]? = some (.cells #[.int .i64 0, .int .i64 0] 55 (0, 0))
  b1 : wr.heap[W.heap.size + 1]? = some (.cells #[.int .i64 (((runA k a (x.L.take q)).d : Nat) : Int), .int .i64 (((runA k a (x.L.take q)).f : Nat) : Int)] 55 (0, 0))
  g0 : G' W.heap.size = 0
  g1 : G' (W.heap.size + 1) = 0
  st : St (fun j => G j ≠ 0 ∨ H j ≠ 0) W wr
  og : ∀ j, j < W.heap.size → G' j = G j
set_option maxHeartbeats 3200000 in
set_option maxRecDepth 100000 in
theorem flush_any (h : Pr B G H W wb ob kv ov k t a x) (hE : Ev B W Ad) (ht : t + x.L.length ≤ 900) (hn : a.n + x.L.length ≤ 1073741824) :
    Calls Tryz.prog 17 #[.pointer (some ⟨ob, 0, none⟩), .pointer (some ⟨wb, 0, none⟩)] W fun e W' => e = .returned (.tuple #[.agg #[.int .i64 ((runA k a x.L).d : Int), .int .i64 ((runA k a x.L).f : Int)], .nilIface]) ∧ ∃ G' H' ov', Pr B G' H' W' wb ob kv ov' k (t + x.L.length) (runA k a x.L).a { x with L := [] } ∧ Bs G H G' H' W W' := by
  obtain ⟨w1, hw1⟩ : ∃ w1, w1 = (W.alloc (.cells #[.int .i64 0, .int .i64 0] 55)).alloc (.cells #[.int .i64 0, .int .i64 0] 55) := ⟨_, rfl⟩
  obtain ⟨b1, r1, p1⟩ := Rs.two_blk W #[.int .i64 0, .int .i64 0] #[.int .i64 0, .int .i64 0] 55 55
  rw [← hw1] at b1 r1 p1
  have h0 : ∀ j, W.heap.size ≤ j → G j = 0 ∧ H j = 0 := fun j hj => ⟨Classical.byContradiction fun e => by have := (h.wa.fin j e).2; omega, Classical.byContradiction fun e => by have := (h.oz.fin j e).2; omega⟩
  have F0 : Hid (Fl B G H W wb ob kv ov k t a x G 0 w1) := hid ⟨by simpa [runA] using h.later b1, r1, by simpa [runA] using p1, (h0 _ (Nat.le_refl _)).1, (h0 _ (Nat.le_succ _)).1, St.of_below b1, fun _ _ => rfl⟩
  have h1 := h.later b1
  obtain ⟨oa, oc, rfl⟩ := h1.oz.slice
  have c4 : w1.cell? ⟨ob, 4, none⟩ = some (.slice oa x.L.length oc) := h1.oz.cell (j := 4) rfl
  have HT := hid ht
  have HN := hid hn
  have HE : Hid (∀ wr G' q, Fl B G H W wb ob kv (.slice oa x.L.length oc) k t a x G' q wr → Ev B wr Ad) := hid fun wr G' q hf => hE.bel (hf.st.below (fun j hj => by rcases hj with e | e; exact (h.wa.fin j e).1; exact (h.oz.fin j e).1) h.wa.big)
  have H1 : Hid (H W.heap.size = 0 ∧ H (W.heap.size + 1) = 0) := hid ⟨(h0 _ (Nat.le_refl _)).2, (h0 _ (Nat.le_succ _)).2⟩
  have hlen : (x.L.length : Int) ≤ 900 := by have := h.oz.len; omega
  have HW1 := hid hw1
  clear h hE ht hn b1 r1 p1 h0 h1 hw1
  go_enter Tryz.func17, Tryz.ntmps17
  go_upto_region 4 with fail
  rw [← HW1.out]
  go_wp2_with fail
  go_loopg [8, 23] x.L.length (fun gh _ i wr => ∃ q : Nat, q ≤ x.L.length ∧ gh = x.L.length - q ∧ i = .int .i64 (q : Int) ∧ ∃ G', Hid (Fl B G H W wb ob kv (.slice oa x.L.length oc) k t a x G' q wr))
  case atStart => exact ⟨0, Nat.zero_le _, rfl, rfl, G, F0.out⟩
  case round =>
    rename World => wr
    obtain ⟨q, hq, rfl, rfl, G', HF⟩ := hrel
    by_cases hlt : q < x.L.length
    · have hki : (q : Int) < (x.L.length : Int) := by omega
      obtain ⟨y, hy⟩ := at_lt x.L q hlt
      obtain ⟨g, rfl, f4⟩ := HF.out.pr.oz.row.at hy
      obtain ⟨x0, x1, x2, x3⟩ := f4
      have hcan := HF.out.pr.oz.can y (List.mem_of_getElem? hy)
      obtain ⟨w3, hw3⟩ : ∃ w3, w3 = wr.alloc (.cells #[.int .i64 y.k, .int .i64 y.id, .int .u32 (y.m : Int), .int .i64 y.c] 48) := ⟨_, rfl⟩
      have b3 : Below wr.heap.size wr w3 := by rw [hw3]; exact bAl _ _
      have r3 : w3.heap[wr.heap.size]? = some (.cells #[.int .i64 y.k, .int .i64 y.id, .int .u32 (y.m : Int), .int .i64 y.c] 48 (0, 0)) := by rw [hw3]; exact heap_alloc_new wr _
      have P3 := HF.out.pr.later b3
      have DO := hid (do_any P3 ((HE.out wr G' q HF.out).later b3) (by have := HT.out; omega) (by have h7 := HN.out; have h8 := (runA_n k a (x.L.take q)).2.1; have h9 : (x.L.take q).length ≤ q := List.length_take_le _ _; omega) y hcan.1 hcan.2)
      have HP3 := hid P3
      have HB3 := hid b3
      have HW3 := hid hw3
      have y0 := cell_blk r3 (j := 0) rfl
      have y1 := cell_blk r3 (j := 1) rfl
      have y2 := cell_blk r3 (j := 2) rfl
      have y3 := cell_blk r3 (j := 3) rfl
      have HNX := hid (runA_next (k := k) (a := a) hy)
      have hsum := runA_sum k a (x.L.take q)
      have hsum' : (runA k a (x.L.take q)).d ≤ 900 ∧ (runA k a (x.L.take q)).f ≤ 900 := by
        have h9 : (x.L.take q).length ≤ q := List.length_take_le _ _
        omega
      have GF := hid fun (w4 : World) (hg : GoA B G' w3 w4 wb k (t + q + 1) (doA k (runA k a (x.L.take q)).a y).2) => (by
        obtain ⟨G2, u1, u2⟩ := hg
        have e0 := u1.at (blk_seen b3 (Nat.le_refl _) HF.out.b0) (by rw [HF.out.g0]; decide)
        have e1 := u1.at (blk_seen b3 (Nat.le_refl _) HF.out.b1) (by rw [HF.out.g1]; decide)
        have st4 : St (fun j => G j ≠ 0 ∨ H j ≠ 0) W w4 := (HF.out.st.trans (St.of_below (S := fun _ => False) b3) fun _ _ q => q.elim).trans u1.st fun j hj e => by rw [HF.out.og j hj] at e; exact .inl (by omega)
        exact ⟨G2, P3.world u1 u2, e0.1, e1.1, e0.2.trans HF.out.g0, e1.2.trans HF.out.g1, st4, fun j hj => (u1.old j (Nat.lt_of_lt_of_le (Nat.lt_of_lt_of_le hj HF.out.st.size) b3.size)).trans (HF.out.og j hj)⟩ : ∃ G2, Pr B G2 H w4 wb ob kv (.slice (some ⟨g, 0, none⟩) x.L.length oc) k (t + q + 1) (doA k (runA k a (x.L.take q)).a y).2 x ∧ w4.heap[W.heap.size]? = some (.cells #[.int .i64 0, .int .i64 0] 55 (0, 0)) ∧ w4.heap[W.heap.size + 1]? = some (.cells #[.int .i64 (((runA k a (x.L.take q)).d : Nat) : Int), .int .i64 (((runA k a (x.L.take q)).f : Nat) : Int)] 55 (0, 0)) ∧ G2 W.heap.size = 0 ∧ G2 (W.heap.size + 1) = 0 ∧ St (fun j => G j ≠ 0 ∨ H j ≠ 0) W w4 ∧ ∀ j, j < W.heap.size → G2 j = G j)
      generalize hra : runA k a (x.L.take q) = ra at *
      obtain ⟨rd, rf, raa⟩ := ra
      simp only at hsum' GF DO
      have wd : IntKind.i64.wrap ((rd : Int) + 1) = ((rd + 1 : Nat) : Int) := by rw [Bd.wrap_mid (by omega) (by omega)]; omega
      have wf : IntKind.i64.wrap ((rf : Int) + 1) = ((rf + 1 : Nat) : Int) := by rw [Bd.wrap_mid (by omega) (by omega)]; omega
      clear b3 r3 P3 hw3 hcan hy hsum HF HP3
      go_upto_region 7 with fail
      rw [← HW3.out]
      go_wp2_with fail
      refine DO.out.mono ?_
      rintro e w4 ⟨r, rfl, he, hg⟩
      obtain ⟨G2, q1, q2, q3, q4, q5, q6, q7⟩ := GF.out w4 hg
      have z0 := cell_blk q3 (j := 0) rfl
      have z1 := cell_blk q3 (j := 1) rfl
      have zf0 := blk_free q3 0
      have zf1 := blk_free q3 1
      have HQ := hid (And.intro q1 (And.intro q2 (And.intro q3 (And.intro q4 (And.intro q5 (And.intro q6 q7))))))
      have FIN : Hid (∀ (v : Value) (j : Nat), j < 2 → ∀ rx : RA, rx = runA k a (x.L.take (q + 1)) → (#[Value.int .i64 ((rd : Nat) : Int), .int .i64 ((rf : Nat) : Int)] : Array Value).setIfInBounds j v = #[.int .i64 ((rx.d : Nat) : Int), .int .i64 ((rx.f : Nat) : Int)] → rx.a = (doA k raa y).2 → Fl B G H W wb ob kv (.slice (some ⟨g, 0, none⟩) x.L.length oc) k t a x G2 (q + 1) (w4.setCell ⟨W.heap.size + 1, j, none⟩ v)) := hid fun v j hj rx hrx hv hra' => by
        have hs : St (fun z => z = W.heap.size + 1) w4 (w4.setCell ⟨W.heap.size + 1, j, none⟩ v) := St.setCell _ rfl
        refine ⟨?_, hs.at q2 (by omega), ?_, q4, q5, q6.trans hs fun z hz e => by omega, q7⟩
        · rw [← hrx, hra']
          exact (q1.beside hs (fun z hz e => hz (by rw [e]; exact q5)) (fun z hz e => hz (by rw [e]; exact H1.out.2)))
        · rw [heap_setCell_same w4 (W.heap.size + 1) j _ _ _ q3, ← hrx]
          rw [hv]
      clear q1 q2 q3 q4 q5 q6 q7 hg GF DO y0 y1 y2 y3
      by_cases hz : (doA k raa y).1 = 0
      · rw [hz] at he
        obtain rfl := he.nil
        clear he
        go_wp2_with fail
        go_roundg (x.L.length - (q + 1))
        case measure => omega
        case rel =>
          refine ⟨q + 1, by omega, rfl, by go_num, G2, ?_⟩
          refine FIN.out _ 0 (by decide) (stA k ⟨rd, rf, raa⟩ y) HNX.out.symm ?_ ?_
          · unfold stA; rw [if_pos hz]; rfl
          · unfold stA; rw [if_pos hz]
      · obtain ⟨tt, qq, rfl⟩ := he.ifc hz
        clear he
        go_wp2_with fail
        go_roundg (x.L.length - (q + 1))
        case measure => omega
        case rel =>
          refine ⟨q + 1, by omega, rfl, by go_num, G2, ?_⟩
          refine FIN.out _ 1 (by decide) (stA k ⟨rd, rf, raa⟩ y) HNX.out.symm ?_ ?_
          · unfold stA; rw [if_neg hz]; rfl
          · unfold stA; rw [if_neg hz]
    · have hki : ¬ ((q : Int) < (x.L.length : Int)) := by omega
      obtain rfl : q = x.L.length := by omega
      have hd := HF.out
      have hr : x.L.take x.L.length = x.L := List.take_length
      obtain ⟨p1, p2, p3, p4, p5, p6, p7⟩ := hd
      rw [hr] at p1 p3
      have cb0 : wr.cell? ⟨W.heap.size + 1, 0, none⟩ = some (.int .i64 ((runA k a x.L).d : Int)) := cell_blk p3 rfl
      have cb1 : wr.cell? ⟨W.heap.size + 1, 1, none⟩ = some (.int .i64 ((runA k a x.L).f : Int)) := cell_blk p3 rfl
      have cf0 := blk_free p2 0
      have cf1 := blk_free p2 1
      have ca0 : wr.cell? ⟨W.heap.size, 0, none⟩ = some (.int .i64 0) := cell_blk p2 rfl
      have ca1 : wr.cell? ⟨W.heap.size, 1, none⟩ = some (.int .i64 0) := cell_blk p2 rfl
      have c4' : wr.cell? ⟨ob, 4, none⟩ = some (.slice oa x.L.length oc) := p1.oz.cell (j := 4) rfl
      have cf4 := blk_free p1.oz.box 4
      obtain ⟨H', k1, k2⟩ := p1.oz.emptied
      have P5 := p1.orders k2 k1 rfl
      obtain ⟨w5, hw5⟩ : ∃ w5, w5 = wr.setCell ⟨ob, 4, none⟩ (.slice none 0 0) := ⟨_, rfl⟩
      rw [← hw5] at P5 k2
      have no : ob ≠ W.heap.size := fun e => by
        have := p1.oz.gw
        rw [e, H1.out.1] at this
        cases this
      have r5 : w5.heap[W.heap.size]? = some (.cells #[.int .i64 0, .int .i64 0] 55 (0, 0)) := by
        rw [hw5]
        exact (St.setCell (S := fun z => z = ob) (a := wr) (p := ⟨ob, 4, none⟩) (.slice none 0 0) rfl).at p2 (fun e => no e.symm)
      have r6 := Bd.put2_blk r5 ((runA k a x.L).d : Int) ((runA k a x.L).f : Int)
      have s6 := Bd.put2_st w5 W.heap.size ((runA k a x.L).d : Int) ((runA k a x.L).f : Int)
      have hlw : W.heap.size < wr.heap.size := (Array.getElem?_eq_some_iff.1 p2).1
      have FN : Hid (Pr B G' H' (Bd.put2 w5 W.heap.size ((runA k a x.L).d : Int) ((runA k a x.L).f : Int)) wb ob kv (.slice none 0 0) k (t + x.L.length) (runA k a x.L).a { x with L := [] } ∧ Bs G H G' H' W (Bd.put2 w5 W.heap.size ((runA k a x.L).d : Int) ((runA k a x.L).f : Int))) := hid ⟨P5.beside s6 (fun z hz e => hz (by rw [e]; exact p4)) (fun z hz e => hz (by rw [e, k2.old _ hlw]; exact H1.out.1)), (p6.trans k2.st fun z hz e => by rcases e with e | e <;> exact .inr (by omega)).trans s6 fun z hz e => by omega, p7, fun z hz => k2.old z (Nat.lt_of_lt_of_le hz p6.size)⟩
      have z0 := cell_blk r6 (j := 0) rfl
      have z1 := cell_blk r6 (j := 1) rfl
      unfold Bd.put2 at z0 z1 FN
      have HW5 := hid hw5
      clear HF c4 p1 p2 p3 p4 p5 p6 p7 P5 k1 k2 r5 r6 s6 no hw5
      go_wp2_with fail
      rw [← HW5.out]
      obtain ⟨k1, k2⟩ := FN.out
      exact bodyPost_ret (v := .tuple #[.agg #[.int .i64 ((runA k a x.L).d : Int), .int .i64 ((runA k a x.L).f : Int)], .nilIface]) (by simp [results, Tryz.results17, go_sem, z0, z1]) rfl ⟨rfl, G', H', ⟨_, k1⟩, k2⟩
end
end Go.Proofs.YthadfdbkkmmgoaaGreatDoor.Or
namespace Go.Proofs.YthadfdbkkmmgoaaGreatDoor.Wo
open Go.RowKit Go.Shelf Go.Maps
open Go.Proofs.YthadfdbkkmmgoaaGreatDoor.At (St bAl cell_blk blk_seen blk_free)
open Go.Proofs.YthadfdbkkmmgoaaGreatDoor.Sc (Cmp CmpRow)
theorem infoCmp : (Tryz.prog.info? 96).map (fun i => (i.zero, i.size, i.bytes)) = some (some (.agg #[.string ⟨#[]⟩, .int .i64 0, .bool false, .int .i64 0, .int .i64 0, .int .i64 0, .int .i64 0]), 7, 64) := by kernel_rfl
def cArr (c : Cmp) : List Value := [.string c.s, .int .i64 c.wd, .bool c.rb, .int .i64 c.d0, .int .i64 c.d1, .int .i64 c.d2, .int .i64 c.d3]
def cCells (l : List Cmp) : List Value := l.flatMap cArr
theorem cCells_len (l : List Cmp) : (cCells l).length = l.length * 7 := by
  induction l with
  | nil => rfl
  | cons x l ih => rw [cCells, List.flatMap_cons, List.length_append]; unfold cCells at ih; rw [ih, List.length_cons]; simp [cArr]; omega
theorem cCells_at : ∀ (l : List Cmp) (j : Nat) (c : Cmp), l[j]? = some c → ∀ i, i < 7 → (cCells l)[j * 7 + i]? = (cArr c)[i]? := by
  intro l
  induction l with
  | nil => intro j c h; simp at h
  | cons x l ih =>
    intro j c h i hi
    have e : cCells (x :: l) = cArr x ++ cCells l := by simp [cCells]
    have hx : (cArr x).length = 7 := rfl
    cases j with
    | zero =>
      simp at h
      subst h
      rw [e, Nat.zero_mul, Nat.zero_add, List.getElem?_append_left (by omega)]
    | succ j =>
      rw [e, List.getElem?_append_right (by omega), hx, show (j + 1) * 7 + i - 7 = j * 7 + i by omega]
      exact ih j c (by simpa using h) i hi
theorem cCells_one (l : List Cmp) : ∀ u ∈ cCells l, u.oneCell' = true := by
  intro u hu
  obtain ⟨c, -, h⟩ := List.mem_flatMap.1 hu
  simp [cArr] at h
  rcases h with rfl | rfl | rfl | rfl | rfl | rfl | rfl <;> rfl
def Cmps (B : Nat) (W : World) (v : Value) (l : List Cmp) : Prop := W.ownsRow B 96 7 v l.length (cCells l)
theorem Cmps.row {B : Nat} {W : World} {v : Value} {l : List Cmp} (h : Cmps B W v l) : CmpRow W v l := by
  rcases h.2 with ⟨rfl, h0⟩ | ⟨g, cap, cur, rfl, -, -, hc, -, -, -⟩
  · obtain rfl := List.length_eq_zero_iff.1 h0
    exact ⟨none, 0, rfl, Nat.le_refl _, .inl rfl⟩
  · refine ⟨_, cap, rfl, hc, .inr ⟨g, 0, rfl, fun j x hj => ?_⟩⟩
    have hj' := (List.getElem?_eq_some_iff.1 hj).1
    have A := cCells_at l j x hj
    have C : ∀ i, i < 7 → W.cell? ⟨g, j * 7 + i, none⟩ = (cArr x)[i]? := fun i hi => (World.ownsRow.cellAt h (j * 7 + i) (by omega)).trans (A i hi)
    rw [Nat.zero_add]
    exact ⟨C 0 (by decide), C 1 (by decide), C 2 (by decide), C 3 (by decide), C 4 (by decide), C 5 (by decide), C 6 (by decide)⟩
/-- A row read cell by cell. -/
theorem cells_of {W : World} {b o : Nat} {l : List Cmp} (h : ∀ (j : Nat) (x : Cmp), l[j]? = some x →
  W.cell? ⟨b, o + j * 7, none⟩ = some (.string x.s) ∧ W.cell? ⟨b, o + j * 7 + 1, none⟩ = some (.int .i64 x.wd) ∧ W.cell? ⟨b, o + j * 7 + 2, none⟩ = some (.bool x.rb) ∧ W.cell? ⟨b, o + j * 7 + 3, none⟩ = some (.int .i64 x.d0) ∧ W.cell? ⟨b, o + j * 7 + 4, none⟩ = some (.int .i64 x.d1) ∧ W.cell? ⟨b, o + j * 7 + 5, none⟩ = some (.int .i64 x.d2) ∧ W.cell? ⟨b, o + j * 7 + 6, none⟩ = some (.int .i64 x.d3)) (j : Nat) (u : Value) (hu : (cCells l)[j]? = some u) : W.cell? ⟨b, o + j, none⟩ = some u := by
  have hj := (List.getElem?_eq_some_iff.1 hu).1
  rw [cCells_len] at hj
  obtain ⟨x, hx⟩ : ∃ x, l[j / 7]? = some x := ⟨_, List.getElem?_eq_getElem (by omega)⟩
  obtain ⟨q0, q1, q2, q3, q4, q5, q6⟩ := h _ x hx
  have A := cCells_at l (j / 7) x hx (j % 7) (by omega)
  rw [show j / 7 * 7 + j % 7 = j by omega, hu] at A
  have hr : j % 7 = 0 ∨ j % 7 = 1 ∨ j % 7 = 2 ∨ j % 7 = 3 ∨ j % 7 = 4 ∨ j % 7 = 5 ∨ j % 7 = 6 := by omega
  have e : o + j = o + j / 7 * 7 + j % 7 := by omega
  rw [e]
  rcases hr with r | r | r | r | r | r | r <;> rw [r] at A ⊢ <;> simp [cArr] at A <;> subst A <;> first | exact q0 | exact q1 | exact q2 | exact q3 | exact q4 | exact q5 | exact q6
set_option maxHeartbeats 1600000 in
set_option maxRecDepth 100000 in
theorem clone_cmps {W : World} {v : Value} {l : List Cmp} (h : CmpRow W v l) (hne : l ≠ []) (hl : l.length ≤ 1000) :
    Calls Tryz.prog 39 #[v] W fun e W' => ∃ g c, e = .returned (.slice (some ⟨g, 0, none⟩) l.length c) ∧ CmpRow W' (.slice (some ⟨g, 0, none⟩) l.length c) l ∧ W.heap.size ≤ g ∧ g < W'.heap.size ∧ Below W.heap.size W W' := by
  have qn := fun (w : World) (a : Option Addr) (n c : Nat) => Go.Lib.run_eql_slice_nil (P := Tryz.prog) w 22 96 a n c 0 0 Tryz.underlying22
  obtain ⟨a, cap, rfl, hcap, h2⟩ := h
  rcases h2 with h2 | ⟨b, o, rfl, h2⟩
  · exact absurd h2 hne
  obtain ⟨i0, hi, hz0, hz1, hz2⟩ := info_parts infoCmp
  have hpos : 0 < l.length := List.length_pos_iff.2 hne
  have R : Hid (∀ (j : Nat) u, (cCells l)[j]? = some u → (W.alloc (.cells #[] 96)).cell? ((⟨b, o, none⟩ : Addr).add j) = some u) := hid fun j u hu => by
    rw [Co.add_at2]
    exact At.seen (bAl W _) (Nat.le_refl _) (cells_of h2 j u hu)
  have O : Hid ((W.alloc (.cells #[] 96)).ownsRow W.heap.size 96 7 (.slice (some ⟨W.heap.size, 0, none⟩) 0 0) 0 []) := World.ownsRow_lit (base := W.heap.size) (e := 96) (size := 7) W #[] 0 (Nat.le_refl _) (Nat.zero_le _) rfl
  have hz : W.heap.size ≤ (W.alloc (.cells #[] 96)).heap.size := by simp
  have BB := hid (bAl W (.cells #[] 96))
  have HL := hid hl
  have HP := hid hpos
  have HZ0 := hid hz0
  have HZ1 := hid hz1
  have HZ2 := hid hz2
  have HI := hid hi
  clear h2 hcap hl hne hpos hz0 hz1 hz2 hi
  go_enter Tryz.func39, Tryz.ntmps39
  go_wp2_with (at_builtin; refine wpList_append_lies _ rfl (.tmp 5) (.tmp 6) 22 rfl W.heap.size 96 i0 (.agg #[.string ⟨#[]⟩, .int .i64 0, .bool false, .int .i64 0, .int .i64 0, .int .i64 0, .int .i64 0]) 7 64 Tryz.underlying22 HI.out HZ0.out HZ1.out HZ2.out rfl (by decide) _ 0 [] rfl O.out ⟨b, o, none⟩ l.length cap (cCells l) rfl (cCells_len l) R.out (cCells_one l) HP.out (by unfold maxLen; have := HL.out; omega) (by have := HL.out; omega) hz _ rfl ?_; intro g cap' w1 ow hg hat hlt)
  go_ret
  have e : (0 : Nat) + l.length = l.length := Nat.zero_add _
  rw [e] at ow
  have bw : Below W.heap.size (W.alloc (.cells #[] 96)) w1 := (Below.refl _ _).grown hg hz (fun k hk => own_block O.out hk)
  refine ⟨g, cap', rfl, Cmps.row (B := W.heap.size) ow, ?_, hlt, BB.out.trans bw⟩
  rcases hat with q | q
  · have := own_block O.out q; exact this
  · rw [q]; exact hz
set_option maxHeartbeats 1600000 in
set_option maxRecDepth 100000 in
theorem clone_any {W : World} {v : Value} {l : List Cmp} (h : CmpRow W v l) (hl : l.length ≤ 1000) :
    Calls Tryz.prog 39 #[v] W fun e W' => ∃ a c, e = .returned (.slice a l.length c) ∧ CmpRow W' (.slice a l.length c) l ∧ (l ≠ [] → ∃ g, a = some ⟨g, 0, none⟩ ∧ W.heap.size ≤ g ∧ g < W'.heap.size) ∧ Below W.heap.size W W' := by
  by_cases hne : l = []
  · subst hne
    have qn := fun (w : World) (a : Option Addr) (n c : Nat) => Go.Lib.run_eql_slice_nil (P := Tryz.prog) w 22 96 a n c 0 0 Tryz.underlying22
    obtain ⟨a, cap, rfl, hcap, h2⟩ := h
    clear h2 hcap hl
    cases a with
    | none =>
      go_enter Tryz.func39, Tryz.ntmps39
      go_wp2_with fail
      go_ret
      exact ⟨none, 0, rfl, ⟨none, 0, rfl, Nat.le_refl _, .inl rfl⟩, fun q => absurd rfl q, Below.refl _ _⟩
    | some ad =>
      obtain ⟨i0, hi, hz0, hz1, hz2⟩ := info_parts infoCmp
      have R : Hid (∀ (j : Nat) (u : Value), ([] : List Value)[j]? = some u → (W.alloc (.cells #[] 96)).cell? (ad.add j) = some u) := hid fun j u hu => by simp at hu
      have O : Hid ((W.alloc (.cells #[] 96)).ownsRow W.heap.size 96 7 (.slice (some ⟨W.heap.size, 0, none⟩) 0 0) 0 []) := World.ownsRow_lit (base := W.heap.size) (e := 96) (size := 7) W #[] 0 (Nat.le_refl _) (Nat.zero_le _) rfl
      have hz : W.heap.size ≤ (W.alloc (.cells #[] 96)).heap.size := by simp
      have BB := hid (bAl W (.cells #[] 96))
      have HZ0 := hid hz0
      have HZ1 := hid hz1
      have HZ2 := hid hz2
      have HI := hid hi
      have H1 : Hid (∀ u ∈ ([] : List Value), u.oneCell' = true) := hid fun u hu => by simp at hu
      clear hz0 hz1 hz2 hi
      go_enter Tryz.func39, Tryz.ntmps39
      go_wp2_with (at_builtin; refine wpList_append_own_at _ rfl (.tmp 5) (.tmp 6) 22 rfl W.heap.size 96 i0 (.agg #[.string ⟨#[]⟩, .int .i64 0, .bool false, .int .i64 0, .int .i64 0, .int .i64 0, .int .i64 0]) 7 64 Tryz.underlying22 HI.out HZ0.out HZ1.out HZ2.out rfl (by decide) _ 0 [] rfl O.out ad 0 cap [] rfl rfl R.out H1.out (by decide) (by decide) hz ?_; intro v1 w1 ow hg q1 q2)
      obtain ⟨a1, c1, rfl⟩ := own_slice ow
      have bw : Below W.heap.size (W.alloc (.cells #[] 96)) w1 := (Below.refl _ _).grown hg hz (fun k hk => own_block O.out hk)
      go_ret
      first
        | exact ⟨a1, c1, rfl, ⟨a1, c1, rfl, Nat.zero_le _, .inl rfl⟩, fun q => absurd rfl q, BB.out.trans bw⟩
        | exact ⟨a1, c1, rfl, ⟨a1, c1, rfl, Nat.zero_le _, .inl rfl⟩, BB.out.trans bw⟩
  · refine (clone_cmps h hne hl).mono ?_
    rintro e W' ⟨g, c, rfl, q1, q2, q3, q4⟩
    exact ⟨_, c, rfl, q1, fun _ => ⟨g, rfl, q2, q3⟩, q4⟩
end Go.Proofs.YthadfdbkkmmgoaaGreatDoor.Wo
namespace Go.Proofs.YthadfdbkkmmgoaaGreatDoor.Wo
open Go.RowKit Go.Shelf Go.Maps
open Go.Proofs.YthadfdbkkmmgoaaGreatDoor.At (St bAl cell_blk blk_seen blk_free)
open Go.Proofs.YthadfdbkkmmgoaaGreatDoor.Rs (SD Prt Prts PRow fitP okW)
open Go.Proofs.YthadfdbkkmmgoaaGreatDoor.So (Sto CV madeS)
open Go.Proofs.YthadfdbkkmmgoaaGreatDoor.Sc (Cmp Rsc CmpRow RscRow SmallC SmallQ checkL)
open Go.Proofs.YthadfdbkkmmgoaaGreatDoor.Co (I64)
theorem lives_made (ws : List Nat) (n : Nat) (hn : n ≤ 64) : Lives (madeS ws n) [] := by
  refine ⟨fun x hx => by simp at hx, ?_, List.Pairwise.nil, ⟨?_, ?_⟩, by simp [madeS], ?_⟩
  · show (List.replicate n 0).length - ((List.range n).reverse).length = 0
    simp
  · show ((List.range n).reverse).Nodup
    rw [List.Nodup, List.pairwise_reverse]
    exact List.nodup_range.imp fun h e => h e.symm
  · intro i hi
    change i ∈ (List.range n).reverse at hi
    show i < (List.replicate n 0).length
    simpa using hi
  · show (List.replicate n 0).length ≤ 64
    simpa using hn
set_option maxHeartbeats 3200000 in
set_option maxRecDepth 100000 in
theorem new_ok (Ad : Nat → Addr) (W : World) (va vb : Value) (cs : List Cmp) (rs : List Rsc) (hE : Env8 W Ad) (hC : CmpRow W va cs) (hQ : RscRow W vb rs) (hsC : SmallC cs) (hsQ : SmallQ rs) (hck : checkL cs rs = []) (ws : List Nat) (hws : cs.map (fun c => c.wd) = ws.map fun (w : Nat) => (w : Int)) (hok : okW ws) (hk : ∀ (i : Nat) (c : Cmp), cs[i]? = some c → ∀ f, fitP ws (dfP (i : Int) c f) = true) (n : Nat) (hn : n ≤ 64) (sd : Int) :
    Calls Tryz.prog 12 #[.agg #[va, vb], .int .i64 (n : Int), .int .i64 sd] W fun e W' => ∃ wb k G, e = .returned (.tuple #[.pointer (some ⟨wb, 0, none⟩), .nilIface]) ∧ Wa (W.heap.size + 1) G W' wb k 0 ⟨[], 1, 0, sd, rs.map Rsc.n⟩ ∧ k.x.cs = cs ∧ k.ws = ws ∧ k.most = n ∧ Below W.heap.size W W' := by
  have hl16 : cs.length ≤ 16 := by have := congrArg List.length hws; simp at this; have := hok.1; omega
  have hlw : cs.length = ws.length := by have := congrArg List.length hws; simpa using this
  obtain ⟨w1, hw1⟩ : ∃ w1, w1 = W.alloc (.cells #[va, vb] 25) := ⟨_, rfl⟩
  have b1 : Below W.heap.size W w1 := by rw [hw1]; exact bAl _ _
  have r1 : w1.heap[W.heap.size]? = some (.cells #[va, vb] 25 (0, 0)) := by rw [hw1]; exact heap_alloc_new W _
  have SN := hid (So.new_ok Ad w1 va vb cs rs (hE.later b1) (hC.later b1) (hQ.later b1) hsC hsQ hck ws hws hok n hn)
  have GN := hid fun (w2 : World) (hb : Below W.heap.size W w2) => Gs.new_ok Ad w2 va vb cs rs (hE.later hb) (hC.later hb) (hQ.later hb) hsC hsQ hck
  have CN := hid fun (w : World) (hb : Below W.heap.size W w) => clone_any (hC.later hb) (by omega)
  obtain ⟨a', c', rfl, -, -⟩ := id hQ
  obtain ⟨a, cc, rfl, -, -⟩ := id hC
  have RN := hid fun (w : World) (hb : Below W.heap.size W w) => Sc.rollback_any w (.slice a cs.length cc) (.slice a' rs.length c') ⟨_, _, _, rfl⟩ cs (hC.later hb) (by omega)
  have x0 : w1.cell? ⟨W.heap.size, 0, none⟩ = some (.slice a cs.length cc) := cell_blk r1 rfl
  have x1 : w1.cell? ⟨W.heap.size, 1, none⟩ = some (.slice a' rs.length c') := cell_blk r1 rfl
  have HZ1 : Hid (w1.heap.size = W.heap.size + 1) := hid (by rw [hw1]; simp)
  have HW1 := hid hw1
  have B1 := hid b1
  have R1 := hid r1
  have HK := hid hk
  have HL := hid hl16
  have HLW := hid hlw
  have HN := hid hn
  clear hw1 b1 r1 hC hQ hsC hsQ hck hws hok hE hk hl16 hlw hn
  go_enter Tryz.func12, Tryz.ntmps12
  go_upto_region 1 with fail
  rw [← HW1.out]
  go_wp2_with fail
  refine SN.out.mono ?_
  rintro e w2 ⟨sb, rfl, c, h2, ht2, hb2⟩
  have S2 := hid h2
  have T2 := hid ht2
  have B2 := hid (B1.out.trans (hb2.mono B1.out.size))
  have Z12 := hid hb2.size
  have q2 := blk_seen hb2 (Nat.le_refl _) R1.out
  have x0 : w2.cell? ⟨W.heap.size, 0, none⟩ = some (.slice a cs.length cc) := cell_blk q2 rfl
  have x1 : w2.cell? ⟨W.heap.size, 1, none⟩ = some (.slice a' rs.length c') := cell_blk q2 rfl
  have Q2 := hid q2
  have GN2 := hid (GN.out w2 B2.out)
  clear h2 ht2 hb2 q2 SN GN
  go_wp2_with fail
  refine GN2.out.mono ?_
  rintro e w3 ⟨gb, rfl, ⟨mb, gv, hg3⟩, hb3⟩
  have G3 := hid hg3
  have B23 := hid hb3
  have B3 := hid (B2.out.trans (hb3.mono B2.out.size))
  have q3 := blk_seen hb3 (Nat.le_refl _) Q2.out
  have KK : Hid (∀ W', Below w3.heap.size w3 W' → W'.cell? ⟨W.heap.size, 0, none⟩ = some (.slice a cs.length cc) ∧ W'.cell? ⟨W.heap.size, 1, none⟩ = some (.slice a' rs.length c')) := hid fun W' hb => by
    have q := blk_seen hb (Nat.le_refl _) q3
    exact ⟨cell_blk q rfl, cell_blk q rfl⟩
  clear hg3 hb3 q3 GN2 x0 x1
  have CN3 : Hid (∀ w, Below w3.heap.size w3 w → Calls Tryz.prog 39 #[.slice a cs.length cc] w fun e W' => ∃ ga c, e = .returned (.slice ga cs.length c) ∧ Below w3.heap.size w3 W' ∧ Hid (CmpRow W' (.slice ga cs.length c) cs ∧ (cs ≠ [] → ∃ g, ga = some ⟨g, 0, none⟩ ∧ w3.heap.size ≤ g ∧ g < W'.heap.size))) := hid fun w hb => by
    refine (CN.out w (B3.out.trans (hb.mono B3.out.size))).mono ?_
    rintro e W' ⟨ga, c, rfl, q1, q2, q4⟩
    exact ⟨ga, c, rfl, hb.trans (q4.mono hb.size), q1, fun q => by
      obtain ⟨g, r1, r2, r3⟩ := q2 q
      exact ⟨g, r1, by have := hb.size; omega, r3⟩⟩
  have RN3 : Hid (∀ w, Below w3.heap.size w3 w → Calls Tryz.prog 40 #[.agg #[.slice a cs.length cc, .slice a' rs.length c']] w fun e W' => e = .returned (.int .u32 (rmask cs)) ∧ Below w3.heap.size w3 W' ∧ Hid (Below w.heap.size w W')) := hid fun w hb => by
    refine (RN.out w (B3.out.trans (hb.mono B3.out.size))).mono ?_
    rintro e W' ⟨rfl, q1⟩
    exact ⟨rfl, hb.trans (q1.mono hb.size), q1⟩
  have BN3 : Hid (∀ w, Below w3.heap.size w3 w → Calls Tryz.prog 50 #[] w fun e W' => ∃ bb, e = .returned (.pointer (some ⟨bb, 0, none⟩)) ∧ Below w3.heap.size w3 W' ∧ Hid (∃ ob nb, Bd.Bg w.heap.size W' bb ob nb 1 [] ∧ Below w.heap.size w W')) := hid fun w hb => by
    refine (Bd.new_any w).mono ?_
    rintro e W' ⟨bb, ob, nb, rfl, q1, q2⟩
    exact ⟨bb, rfl, hb.trans (q2.mono hb.size), ob, nb, q1, q2⟩
  go_upto_region 7 with fail
  have b33 : Below w3.heap.size w3 w3 := Below.refl _ _
  have b33d := b33.drew
  obtain ⟨k0, k1⟩ := KK.out w3 b33
  go_region_held3 (fun W' => W'.cell? ⟨W.heap.size, 0, none⟩ = some (.slice a cs.length cc) ∧ W'.cell? ⟨W.heap.size, 1, none⟩ = some (.slice a' rs.length c'))
    (first | (refine KK.out _ ?_; with_reducible (repeat' (first | assumption | exact Below.size (by assumption) | refine Below.alloc ?_ ?_ _ | refine Below.drew ?_))) | fail)
    (first
      | (go_at_call 39; refine (CN3.out _ (by with_reducible assumption)).mono ?_; rintro e w4 ⟨ga, gc, rfl, b4, H4⟩)
      | (go_at_call 40; refine (RN3.out _ (by with_reducible assumption)).mono ?_; rintro e w5 ⟨rfl, b5, H5⟩)
      | (go_at_call 50; refine (BN3.out _ (by with_reducible assumption)).mono ?_; rintro e w6 ⟨bb, rfl, b6, H6⟩)
      | fail)
  all_goals
    clear CN3 RN3 BN3 KK CN RN
    go_wp2_with fail
    go_ret2
    obtain ⟨hk4, hg4⟩ := H4.out
    have c5 := H5.out
    obtain ⟨ob, nb, hb6, c6⟩ := H6.out
    classical
    obtain ⟨wf, hwf⟩ : ∃ wf, wf = w6.alloc (.cells #[.slice ga cs.length gc, .slice none 0 0, .int .u32 (rmask cs), .pointer (some ⟨sb, 0, none⟩), .pointer (some ⟨bb, 0, none⟩), .pointer (some ⟨gb, 0, none⟩), .pointer none, .int .i64 0, .int .i64 sd] 122) := ⟨_, rfl⟩
    have bf : Below w6.heap.size w6 wf := by rw [hwf]; exact bAl _ _
    have rf : wf.heap[w6.heap.size]? = some (.cells #[.slice ga cs.length gc, .slice none 0 0, .int .u32 (rmask cs), .pointer (some ⟨sb, 0, none⟩), .pointer (some ⟨bb, 0, none⟩), .pointer (some ⟨gb, 0, none⟩), .pointer none, .int .i64 0, .int .i64 sd] 122 (0, 0)) := by rw [hwf]; exact heap_alloc_new _ _
    have sf : wf.heap.size = w6.heap.size + 1 := by rw [hwf]; simp
    rw [← hwf]
    have z1 := HZ1.out
    have z12 : w1.heap.size ≤ w2.heap.size := Z12.out
    have z23 : w2.heap.size ≤ w3.heap.size := B23.out.size
    have z34 : w3.heap.size ≤ w4.heap.size := b4.size
    have z45 : w4.heap.size ≤ w5.heap.size := c5.size
    have z56 : w5.heap.size ≤ w6.heap.size := c6.size
    have t56 : Below w5.heap.size w5 wf := Below.trans (b := w6) c6 (bf.mono z56)
    have t46 : Below w4.heap.size w4 wf := Below.trans (b := w5) c5 (t56.mono z45)
    have t36 : Below w3.heap.size w3 wf := b4.trans (t46.mono z34)
    have t26 : Below w2.heap.size w2 wf := B23.out.trans (t36.mono z23)
    have hS := S2.out.lt
    have hB : ∀ k, Bd.Ft bb ob nb k → w5.heap.size ≤ k ∧ k < w6.heap.size := fun k hk => hb6.lt k hk
    have hG := G3.out.lt
    obtain ⟨G, hGd⟩ : ∃ G : Own, G = fun k => if c.f k ≠ (0, 0, 0) then 1 else if Bd.Ft bb ob nb k then 2 else if Gs.Fz gb mb gv k then 3 else if k = w6.heap.size then 5 else if cs ≠ [] ∧ ga = some ⟨k, 0, none⟩ then 6 else 0 := ⟨_, rfl⟩
    have g1 : ∀ k, c.f k ≠ (0, 0, 0) → G k = 1 := fun k hk => by rw [hGd]; exact if_pos hk
    have g2 : ∀ k, Bd.Ft bb ob nb k → G k = 2 := fun k hk => by
      have n1 : ¬ c.f k ≠ (0, 0, 0) := fun q => by have := hS k q; have := hB k hk; omega
      rw [hGd]; simp only [if_neg n1, if_pos hk]
    have g3 : ∀ k, Gs.Fz gb mb gv k → G k = 3 := fun k hk => by
      have n1 : ¬ c.f k ≠ (0, 0, 0) := fun q => by have := hS k q; have := hG k hk; omega
      have n2 : ¬ Bd.Ft bb ob nb k := fun q => by have := hB k q; have := hG k hk; omega
      rw [hGd]; simp only [if_neg n1, if_neg n2, if_pos hk]
    have g5 : G w6.heap.size = 5 := by
      have n1 : ¬ c.f w6.heap.size ≠ (0, 0, 0) := fun q => by have := hS _ q; omega
      have n2 : ¬ Bd.Ft bb ob nb w6.heap.size := fun q => by have := hB _ q; omega
      have n3 : ¬ Gs.Fz gb mb gv w6.heap.size := fun q => by have := hG _ q; omega
      rw [hGd]; simp only [if_neg n1, if_neg n2, if_neg n3, if_true]
    have hK : ∀ k, cs ≠ [] ∧ ga = some ⟨k, 0, none⟩ → w3.heap.size ≤ k ∧ k < w4.heap.size := fun k ⟨q1, q2⟩ => by
      obtain ⟨g, r1, r2, r3⟩ := hg4 q1
      rw [r1] at q2
      have : g = k := by simpa using q2
      omega
    have g6 : ∀ k, cs ≠ [] ∧ ga = some ⟨k, 0, none⟩ → G k = 6 := fun k hk => by
      have hk' := hK k hk
      have n1 : ¬ c.f k ≠ (0, 0, 0) := fun q => by have := hS _ q; omega
      have n2 : ¬ Bd.Ft bb ob nb k := fun q => by have := hB _ q; omega
      have n3 : ¬ Gs.Fz gb mb gv k := fun q => by have := hG _ q; omega
      have n4 : ¬ k = w6.heap.size := by omega
      rw [hGd]; simp only [if_neg n1, if_neg n2, if_neg n3, if_neg n4, if_pos hk]
    have fin : Fin (W.heap.size + 1) G wf := fun k q => by
      rw [hGd] at q
      simp only at q
      split at q
      · have := hS k (by assumption); omega
      · split at q
        · have := hB k (by assumption); omega
        · split at q
          · have := hG k (by assumption); omega
          · split at q
            · omega
            · split at q
              · have := hK k (by assumption); omega
              · exact absurd rfl q
    have gd2 : Gs.Gd (W.heap.size + 1) wf gb mb gv (rs.map Rsc.s) (rs.map Rsc.n) 0 := by
      have q := G3.out.later t36
      exact ⟨q.box, q.map, ⟨q.row.1, q.row.2.elim .inl fun ⟨g', cap, cur, h1, h2, h3⟩ => .inr ⟨g', cap, cur, h1, by omega, h3⟩⟩, by have := q.low; omega, q.few⟩
    refine ⟨_, ⟨⟨sb, bb, gb, .slice ga cs.length gc, cs, rs.map Rsc.s⟩, ws, n⟩, G, rfl, ⟨⟨⟨madeS ws n, 0, 1, [], rs.map Rsc.n, 0, 0, sd⟩, ⟨⟨fin, by omega, rf, g5, hk4.later t46, fun hz b o n' c' e => ?_, HL.out, ⟨c, z1 ▸ S2.out.later t26, by rw [T2.out]; exact Nat.le_refl _, g1⟩, ⟨ob, nb, (hb6.later bf).lower (by show W.heap.size + 1 ≤ w5.heap.size; omega), g2⟩, ⟨mb, gv, gd2, g3⟩, ⟨by show (0 : Int) ≤ 0; decide, by show (0 : Int) ≤ 1073741824; decide⟩⟩, lives_made ws n HN.out⟩, Nat.le_refl _, rfl, by simp [madeS, Ro.RS.fresh], rfl, rfl, rfl, rfl, rfl⟩, HLW.out, HK.out⟩, rfl, rfl, rfl, ?_⟩
    · obtain ⟨g, r1, -, -⟩ := hg4 hz
      have e0 : Value.slice ga cs.length gc = .slice (some ⟨b, o, none⟩) n' c' := e
      rw [r1] at e0
      have e1 : (b = g ∧ o = 0) ∧ n' = cs.length ∧ c' = gc := by simpa using e0.symm
      rw [e1.1.1]; exact g6 g ⟨hz, r1⟩
    · exact B3.out.trans (t36.mono B3.out.size)
end Go.Proofs.YthadfdbkkmmgoaaGreatDoor.Wo
namespace Go.Proofs.YthadfdbkkmmgoaaGreatDoor.Or
open Go.RowKit Go.Shelf Go.Maps
open Go.Proofs.YthadfdbkkmmgoaaGreatDoor.At (St bAl cell_blk blk_seen blk_free)
open Go.Proofs.YthadfdbkkmmgoaaGreatDoor.Sc (Cmp Rsc CmpRow RscRow SmallC SmallQ checkL)
open Go.Proofs.YthadfdbkkmmgoaaGreatDoor.Wo (Fin Up Ed at_es at_ed Ev st_mono clone_cmps)
set_option maxHeartbeats 3200000 in
set_option maxRecDepth 100000 in
theorem new_ok (Ad : Nat → Addr) (W : World) (va vb : Value) (cs : List Cmp) (rs : List Rsc) (hE : Env8 W Ad) (hC : CmpRow W va cs) (hQ : RscRow W vb rs) (hsC : SmallC cs) (hsQ : SmallQ rs) (hck : checkL cs rs = []) (hl16 : cs.length ≤ 16) (m : Int) (hm0 : 0 ≤ m) (hm1 : m ≤ 64) :
    Calls Tryz.prog 8 #[.agg #[va, vb], .int .i64 m] W fun e W' => ∃ ob kv H, e = .returned (.tuple #[.pointer (some ⟨ob, 0, none⟩), .nilIface]) ∧ Oz (W.heap.size + 1) H W' ob kv (.slice none 0 0) ⟨cs, m, [], 0, 0⟩ ∧ Below W.heap.size W W' := by
  obtain ⟨w1, hw1⟩ : ∃ w1, w1 = W.alloc (.cells #[va, vb] 25) := ⟨_, rfl⟩
  have b1 : Below W.heap.size W w1 := by rw [hw1]; exact bAl _ _
  have r1 : w1.heap[W.heap.size]? = some (.cells #[va, vb] 25 (0, 0)) := by rw [hw1]; exact heap_alloc_new W _
  have CK := hid (Sc.check_any Ad w1 va vb cs rs (hE.later b1) (hC.later b1) (hQ.later b1) hsC hsQ)
  rw [hck] at CK
  have CN := hid fun (w : World) (hb : Below W.heap.size W w) => Wo.clone_any (hC.later hb) (by omega)
  obtain ⟨a', c', rfl, -, -⟩ := id hQ
  obtain ⟨a, cc, rfl, -, -⟩ := id hC
  have RN := hid fun (w : World) (hb : Below W.heap.size W w) => Sc.rollback_any w (.slice a cs.length cc) (.slice a' rs.length c') ⟨_, _, _, rfl⟩ cs (hC.later hb) (by omega)
  have SN := hid fun (w : World) (hb : Below W.heap.size W w) => Sc.shown_any w (.slice a cs.length cc) (.slice a' rs.length c') ⟨_, _, _, rfl⟩ cs (hC.later hb) (by omega)
  have x0 : w1.cell? ⟨W.heap.size, 0, none⟩ = some (.slice a cs.length cc) := cell_blk r1 rfl
  have x1 : w1.cell? ⟨W.heap.size, 1, none⟩ = some (.slice a' rs.length c') := cell_blk r1 rfl
  have hm0' : ¬ m < 0 := by omega
  have hm1' : ¬ (64 < m) := by omega
  have HZ1 : Hid (w1.heap.size = W.heap.size + 1) := hid (by rw [hw1]; simp)
  have HW1 := hid hw1
  have B1 := hid b1
  have R1 := hid r1
  have HL := hid hl16
  have HM : Hid (0 ≤ m ∧ m ≤ 64) := hid ⟨hm0, hm1⟩
  have HCA := hid (comps_all cs hl16)
  clear hw1 b1 r1 hC hQ hsC hsQ hck hE hl16 hm0 hm1
  go_enter Tryz.func8, Tryz.ntmps8
  go_upto_region 1 with fail
  rw [← HW1.out]
  go_wp2_with fail
  refine CK.out.mono ?_
  rintro e w2 ⟨v', rfl, ht, hb2⟩
  obtain rfl := So.top_nil ht
  have B2 := hid (B1.out.trans (hb2.mono B1.out.size))
  have Z12 := hid hb2.size
  have q2 := blk_seen hb2 (Nat.le_refl _) R1.out
  have KK : Hid (∀ W', Below w2.heap.size w2 W' → W'.cell? ⟨W.heap.size, 0, none⟩ = some (.slice a cs.length cc) ∧ W'.cell? ⟨W.heap.size, 1, none⟩ = some (.slice a' rs.length c')) := hid fun W' hb => by
    have q := blk_seen hb (Nat.le_refl _) q2
    exact ⟨cell_blk q rfl, cell_blk q rfl⟩
  clear ht hb2 CK x0 x1 q2
  have CN3 : Hid (∀ w, Below w2.heap.size w2 w → Calls Tryz.prog 39 #[.slice a cs.length cc] w fun e W' => ∃ ga c, e = .returned (.slice ga cs.length c) ∧ Below w2.heap.size w2 W' ∧ Hid (CmpRow W' (.slice ga cs.length c) cs ∧ (cs ≠ [] → ∃ g, ga = some ⟨g, 0, none⟩ ∧ w2.heap.size ≤ g ∧ g < W'.heap.size))) := hid fun w hb => by
    refine (CN.out w (B2.out.trans (hb.mono B2.out.size))).mono ?_
    rintro e W' ⟨ga, c, rfl, q1, q2, q4⟩
    exact ⟨ga, c, rfl, hb.trans (q4.mono hb.size), q1, fun q => by
      obtain ⟨g, r1, r2, r3⟩ := q2 q
      exact ⟨g, r1, by have := hb.size; omega, r3⟩⟩
  have RN3 : Hid (∀ w, Below w2.heap.size w2 w → Calls Tryz.prog 40 #[.agg #[.slice a cs.length cc, .slice a' rs.length c']] w fun e W' => e = .returned (.int .u32 (Sc.kindM cs true (min cs.length 32))) ∧ Below w2.heap.size w2 W' ∧ Hid (Below w.heap.size w W')) := hid fun w hb => by
    refine (RN.out w (B2.out.trans (hb.mono B2.out.size))).mono ?_
    rintro e W' ⟨rfl, q1⟩
    exact ⟨rfl, hb.trans (q1.mono hb.size), q1⟩
  have SN3 : Hid (∀ w, Below w2.heap.size w2 w → Calls Tryz.prog 41 #[.agg #[.slice a cs.length cc, .slice a' rs.length c']] w fun e W' => e = .returned (.int .u32 (Sc.kindM cs false (min cs.length 32))) ∧ Below w2.heap.size w2 W' ∧ Hid (Below w.heap.size w W')) := hid fun w hb => by
    refine (SN.out w (B2.out.trans (hb.mono B2.out.size))).mono ?_
    rintro e W' ⟨rfl, q1⟩
    exact ⟨rfl, hb.trans (q1.mono hb.size), q1⟩
  generalize Sc.kindM cs true (min cs.length 32) = kt at *
  generalize Sc.kindM cs false (min cs.length 32) = kf at *
  have hca := HCA.out
  go_upto_region 6 with fail
  have b33 : Below w2.heap.size w2 w2 := Below.refl _ _
  have b33d := b33.drew
  obtain ⟨k0, k1⟩ := KK.out w2 b33
  go_region_held3 (fun W' => W'.cell? ⟨W.heap.size, 0, none⟩ = some (.slice a cs.length cc) ∧ W'.cell? ⟨W.heap.size, 1, none⟩ = some (.slice a' rs.length c'))
    (first | (refine KK.out _ ?_; with_reducible (repeat' (first | assumption | exact Below.size (by assumption) | refine Below.alloc ?_ ?_ _ | refine Below.drew ?_))) | fail)
    (first
      | (go_at_call 39; refine (CN3.out _ (by with_reducible assumption)).mono ?_; rintro e w4 ⟨ga, gc, rfl, b4, H4⟩)
      | (go_at_call 40; refine (RN3.out _ (by with_reducible assumption)).mono ?_; rintro e w5 ⟨rfl, b5, H5⟩)
      | (go_at_call 41; refine (SN3.out _ (by with_reducible assumption)).mono ?_; rintro e w6 ⟨rfl, b6, H6⟩)
      | fail)
  all_goals
    clear CN3 RN3 SN3 KK CN RN SN k0 k1
    go_wp2_with fail
    go_ret2
    obtain ⟨hk4, hg4⟩ := H4.out
    have c5 := H5.out
    have c6 := H6.out
    obtain ⟨wf, hwf⟩ : ∃ wf, wf = w6.alloc (.cells #[.slice ga cs.length gc, .slice none 0 0, .int .u32 ((compsM cs.length : Nat) : Int), .int .i64 m, .slice none 0 0, .int .i64 0, .int .i64 0] 99) := ⟨_, rfl⟩
    have bf : Below w6.heap.size w6 wf := by rw [hwf]; exact bAl _ _
    have rf : wf.heap[w6.heap.size]? = some (.cells #[.slice ga cs.length gc, .slice none 0 0, .int .u32 ((compsM cs.length : Nat) : Int), .int .i64 m, .slice none 0 0, .int .i64 0, .int .i64 0] 99 (0, 0)) := by rw [hwf]; exact heap_alloc_new _ _
    have sf : wf.heap.size = w6.heap.size + 1 := by rw [hwf]; simp
    rw [← hwf]
    have z1 := HZ1.out
    have z12 : w1.heap.size ≤ w2.heap.size := Z12.out
    have z24 : w2.heap.size ≤ w4.heap.size := b4.size
    have z45 : w4.heap.size ≤ w5.heap.size := c5.size
    have z56 : w5.heap.size ≤ w6.heap.size := c6.size
    have t56 : Below w5.heap.size w5 wf := Below.trans (b := w6) c6 (bf.mono z56)
    have t46 : Below w4.heap.size w4 wf := Below.trans (b := w5) c5 (t56.mono z45)
    have t26 : Below w2.heap.size w2 wf := b4.trans (t46.mono z24)
    have hK : ∀ k, cs ≠ [] ∧ ga = some ⟨k, 0, none⟩ → w2.heap.size ≤ k ∧ k < w4.heap.size := fun k ⟨q1, q2⟩ => by
      obtain ⟨g, r1, r2, r3⟩ := hg4 q1
      rw [r1] at q2
      have : g = k := by simpa using q2
      omega
    classical
    refine ⟨_, .slice ga cs.length gc, fun k => if k = w6.heap.size then 4 else if cs ≠ [] ∧ ga = some ⟨k, 0, none⟩ then 6 else 0, rfl, ⟨fun k q => ?_, by omega, rf, if_pos rfl, hk4.later t46, fun hz b o n' c' e => ?_, HL.out, ods_nil _ _, fun k hk => by simp [Value.ownBlock] at hk, by simp, fun y hy => by simp at hy, ⟨by show (0 : Int) ≤ 0; decide, HM.out.1, by show (0 : Int) ≤ 0; decide, by show (0 : Int) ≤ 1000000; decide, HM.out.2⟩⟩, ?_⟩
    · change (if k = w6.heap.size then 4 else if cs ≠ [] ∧ ga = some ⟨k, 0, none⟩ then 6 else 0) ≠ 0 at q
      split at q
      · omega
      · split at q
        · have := hK k (by assumption); omega
        · exact absurd rfl q
    · obtain ⟨g, r1, r2, r3⟩ := hg4 hz
      have e0 : Value.slice ga cs.length gc = .slice (some ⟨b, o, none⟩) n' c' := e
      rw [r1] at e0
      have e1 : (b = g ∧ o = 0) ∧ n' = cs.length ∧ c' = gc := by simpa using e0.symm
      rw [e1.1.1]
      show (if g = w6.heap.size then 4 else if cs ≠ [] ∧ ga = some ⟨g, 0, none⟩ then 6 else 0) = 6
      have ng : ¬ g = w6.heap.size := by omega
      rw [if_neg ng, if_pos ⟨hz, r1⟩]
    · exact B2.out.trans (t26.mono B2.out.size)
set_option maxHeartbeats 1600000 in
set_option maxRecDepth 100000 in
theorem clone_ords {B : Nat} {W : World} {v : Value} {l : List Od} (h : Ods B W v l) (hl : l.length ≤ 1000) :
    Calls Tryz.prog 60 #[v] W fun e W' => ∃ v', e = .returned v' ∧ Ods W.heap.size W' v' l ∧ Below W.heap.size W W' := by
  have qn := fun (w : World) (a : Option Addr) (n c : Nat) => Go.Lib.run_eql_slice_nil (P := Tryz.prog) w 60 48 a n c 0 0 Tryz.underlying60
  rcases h.2 with ⟨rfl, h0⟩ | ⟨g, cap, cur, rfl, h2, h3, h4, h5, h6, h7⟩
  · obtain rfl := List.length_eq_zero_iff.1 h0
    clear h h0 hl
    go_enter Tryz.func60, Tryz.ntmps60
    go_wp2_with fail
    go_ret
    exact ⟨_, rfl, ods_nil _ _, Below.refl _ _⟩
  · obtain ⟨i0, hi, hz0, hz1, hz2⟩ := info_parts infoOrd
    have R : Hid (∀ (j : Nat) u, (oCells l)[j]? = some u → (W.alloc (.cells #[] 48)).cell? ((⟨g, 0, none⟩ : Addr).add j) = some u) := hid fun j u hu => by
      rw [add_at]
      refine At.seen (bAl W _) (Nat.le_refl _) ?_
      have hj := (List.getElem?_eq_some_iff.1 hu).1
      rw [oCells_len] at hj
      rw [World.ownsRow.cellAt h j hj]
      exact hu
    have O : Hid ((W.alloc (.cells #[] 48)).ownsRow W.heap.size 48 4 (.slice (some ⟨W.heap.size, 0, none⟩) 0 0) 0 []) := World.ownsRow_lit (base := W.heap.size) (e := 48) (size := 4) W #[] 0 (Nat.le_refl _) (Nat.zero_le _) rfl
    have hz : W.heap.size ≤ (W.alloc (.cells #[] 48)).heap.size := by simp
    have BB := hid (bAl W (.cells #[] 48))
    have HL := hid hl
    have HZ0 := hid hz0
    have HZ1 := hid hz1
    have HZ2 := hid hz2
    have HI := hid hi
    have H1 : Hid (∀ u ∈ oCells l, u.oneCell' = true) := hid fun u hu => by
      obtain ⟨c, -, q⟩ := List.mem_flatMap.1 hu
      simp [Od.arr] at q
      rcases q with rfl | rfl | rfl | rfl <;> rfl
    clear h h2 h3 h4 h5 h6 h7 hl hz0 hz1 hz2 hi
    go_enter Tryz.func60, Tryz.ntmps60
    go_wp2_with (at_builtin; refine wpList_append_own_at _ rfl (.tmp 5) (.tmp 6) 60 rfl W.heap.size 48 i0 (.agg #[.int .i64 0, .int .i64 0, .int .u32 0, .int .i64 0]) 4 32 Tryz.underlying60 HI.out HZ0.out HZ1.out HZ2.out rfl (by decide) _ 0 [] rfl O.out ⟨g, 0, none⟩ l.length cap (oCells l) rfl (oCells_len l) R.out H1.out (by unfold maxLen; have := HL.out; omega) (by have := HL.out; omega) hz ?_; intro v1 w1 ow hg q1 q2)
    obtain ⟨a1, c1, rfl⟩ := own_slice ow
    have ho : Hid (Ods W.heap.size w1 (.slice a1 (0 + l.length) c1) l) := hid (by
      show w1.ownsRow _ _ _ _ l.length (oCells l)
      have e : (0 : Nat) + l.length = l.length := Nat.zero_add _
      rw [e] at ow ⊢
      exact ow)
    go_ret
    have bw : Below W.heap.size (W.alloc (.cells #[] 48)) w1 := (Below.refl _ _).grown hg hz (fun k hk => own_block O.out hk)
    exact ⟨_, rfl, ho.out, BB.out.trans bw⟩
set_option maxHeartbeats 800000 in
theorem list_any {B : Nat} {H : Wo.Own} {W : World} {ob : Nat} {kv ov : Value} {x : OP} (h : Oz B H W ob kv ov x) : Calls Tryz.prog 23 #[.pointer (some ⟨ob, 0, none⟩)] W fun e W' => ∃ v, e = .returned v ∧ Ods W.heap.size W' v x.L ∧ Below W.heap.size W W' := by
  have C := hid (clone_ords h.row (by have := h.len; omega))
  obtain ⟨a, c, rfl⟩ := h.slice
  have c4 : W.cell? ⟨ob, 4, none⟩ = some (.slice a x.L.length c) := h.cell (j := 4) rfl
  clear h
  go_enter Tryz.func23, Tryz.ntmps23
  go_wp2_with fail
  refine C.out.mono ?_
  rintro e w1 ⟨v1, rfl, ho, hb⟩
  obtain ⟨a1, c1, rfl⟩ := ho.slice
  have HO := hid ho
  have HB := hid hb
  clear ho hb C
  go_wp2_with fail
  go_ret
  exact ⟨_, rfl, HO.out, HB.out⟩
end Go.Proofs.YthadfdbkkmmgoaaGreatDoor.Or
namespace Go.Proofs.YthadfdbkkmmgoaaGreatDoor.Or
open Go.RowKit Go.Shelf Go.Maps
open Go.Proofs.YthadfdbkkmmgoaaGreatDoor.At (St bAl cell_blk blk_seen blk_free)
open Go.Proofs.YthadfdbkkmmgoaaGreatDoor.Sc (Cmp Rsc CmpRow RscRow SmallC SmallQ checkL)
open Go.Proofs.YthadfdbkkmmgoaaGreatDoor.Wo (Fin Up Ed cArr cCells cCells_at)
theorem is_ed {Ad : Nat → Addr} {W : World} {v : Value} {K k n : Nat} (hE : Env8 W Ad) (h : Ed Ad W v K n) (h0 : K ∈ eight) (hk : k ∈ eight) :
    Calls Tryz.prog 11 #[v, .iface 330 (.pointer (some (Ad k)))] W fun e W' => e = .returned (.bool (decide (K = k))) ∧ Below W.heap.size W W' := by
  obtain ⟨d, q⟩ := h.err (by rintro rfl; exact absurd h0 (by decide))
  exact Gs.is_err Ad hE q h0 hk
def bPos : ByteArray := ⟨#[112, 111, 115]⟩
def bHp : ByteArray := ⟨#[104, 112]⟩
def bLook : ByteArray := ⟨#[108, 111, 111, 107]⟩
/-- The law's schema of three components. -/
def small3 : List Cmp := [⟨bPos, 2, true, 4, 5, 0, 0⟩, ⟨bHp, 1, true, 0, 0, 0, 0⟩, ⟨bLook, 1, false, 0, 0, 0, 0⟩]
def smallB : Obj := .cells #[.string ⟨#[112, 111, 115]⟩, .int .i64 2, .bool true, .int .i64 4, .int .i64 5, .int .i64 0, .int .i64 0, .string ⟨#[104, 112]⟩, .int .i64 1, .bool true, .int .i64 0, .int .i64 0, .int .i64 0, .int .i64 0, .string ⟨#[108, 111, 111, 107]⟩, .int .i64 1, .bool false, .int .i64 0, .int .i64 0, .int .i64 0, .int .i64 0] 96
theorem small_ok : checkL small3 [] = [] := by kernel_rfl
theorem small_w : Rs.okW [2, 1, 1] := ⟨by decide, fun w hw => by simp at hw; rcases hw with rfl | rfl <;> decide⟩
theorem small_ws : small3.map (fun c => c.wd) = [2, 1, 1].map fun (w : Nat) => (w : Int) := by kernel_rfl
theorem small_row {W : World} {g : Nat} (h : W.heap[g]? = some smallB) : CmpRow W (.slice (some ⟨g, 0, none⟩) 3 3) small3 := by
  refine ⟨_, 3, rfl, by decide, .inr ⟨g, 0, rfl, fun j x hx => ?_⟩⟩
  have hj : j = 0 ∨ j = 1 ∨ j = 2 := by
    have := (List.getElem?_eq_some_iff.1 hx).1
    have e : small3.length = 3 := rfl
    omega
  rcases hj with rfl | rfl | rfl <;> (simp [small3] at hx; subst hx; exact ⟨cell_blk h rfl, cell_blk h rfl, cell_blk h rfl, cell_blk h rfl, cell_blk h rfl, cell_blk h rfl, cell_blk h rfl⟩)
theorem small_df (i : Nat) (c : Cmp) (h : small3[i]? = some c) (f : Int) : Rs.fitP [2, 1, 1] (Wo.dfP (i : Int) c f) = true := by
  have hj : i = 0 ∨ i = 1 ∨ i = 2 := by
    have := (List.getElem?_eq_some_iff.1 h).1
    have e : small3.length = 3 := rfl
    omega
  rcases hj with rfl | rfl | rfl <;> (simp [small3] at h; subst h; rfl)
set_option maxHeartbeats 1600000 in
theorem small_any (W : World) : Calls Tryz.prog 32 #[] W fun e W' => ∃ g, e = .returned (.agg #[.slice (some ⟨g, 0, none⟩) 3 3, .slice none 0 0]) ∧ CmpRow W' (.slice (some ⟨g, 0, none⟩) 3 3) small3 ∧ Below W.heap.size W W' := by
  obtain ⟨b2, r2, p2⟩ := Rs.two_blk W #[.slice (some ⟨W.heap.size + 1, 0, none⟩) 3 3, .slice none 0 0] #[.string ⟨#[112, 111, 115]⟩, .int .i64 2, .bool true, .int .i64 4, .int .i64 5, .int .i64 0, .int .i64 0, .string ⟨#[104, 112]⟩, .int .i64 1, .bool true, .int .i64 0, .int .i64 0, .int .i64 0, .int .i64 0, .string ⟨#[108, 111, 111, 107]⟩, .int .i64 1, .bool false, .int .i64 0, .int .i64 0, .int .i64 0, .int .i64 0] 25 96
  obtain ⟨w2, hw2⟩ : ∃ w2, w2 = (W.alloc (.cells #[.slice (some ⟨W.heap.size + 1, 0, none⟩) 3 3, .slice none 0 0] 25)).alloc (.cells #[.string ⟨#[112, 111, 115]⟩, .int .i64 2, .bool true, .int .i64 4, .int .i64 5, .int .i64 0, .int .i64 0, .string ⟨#[104, 112]⟩, .int .i64 1, .bool true, .int .i64 0, .int .i64 0, .int .i64 0, .int .i64 0, .string ⟨#[108, 111, 111, 107]⟩, .int .i64 1, .bool false, .int .i64 0, .int .i64 0, .int .i64 0, .int .i64 0] 96) := ⟨_, rfl⟩
  rw [← hw2] at b2 r2 p2
  have HW2 := hid hw2
  clear hw2
  go_enter Tryz.func32, Tryz.ntmps32
  go_wp2_with fail
  have z0 := cell_blk (j := 0) r2 rfl
  have z1 := cell_blk (j := 1) r2 rfl
  have hr := small_row p2
  rw [← HW2.out]
  exact bodyPost_ret (v := .agg #[.slice (some ⟨W.heap.size + 1, 0, none⟩) 3 3, .slice none 0 0]) (by simp [results, Tryz.results32, go_sem, z0, z1]) rfl ⟨_, rfl, hr, b2⟩
end Go.Proofs.YthadfdbkkmmgoaaGreatDoor.Or
namespace Go.Proofs.YthadfdbkkmmgoaaGreatDoor.Wo
open Go.RowKit Go.Shelf Go.Maps
open Go.Proofs.YthadfdbkkmmgoaaGreatDoor.At (St bAl cell_blk blk_seen blk_free)
open Go.Proofs.YthadfdbkkmmgoaaGreatDoor.Rs (SD Prt Prts PRow fitP remP insP)
open Go.Proofs.YthadfdbkkmmgoaaGreatDoor.So (Er al rowed entered setQ sortP chkL putP)
open Go.Proofs.YthadfdbkkmmgoaaGreatDoor.Bd (Prs okP who num ins del)
open Go.Proofs.YthadfdbkkmmgoaaGreatDoor.Sc (Cmp)
open Go.Proofs.YthadfdbkkmmgoaaGreatDoor.Co (I64)
/-- The six cells of a block. -/
abbrev sixS (w : World) (b : Nat) (q : Prt) : Prop := w.cell? ⟨b, 0, none⟩ = some (.int .i64 q.c) ∧ w.cell? ⟨b, 1, none⟩ = some (.int .i64 q.v0) ∧ w.cell? ⟨b, 2, none⟩ = some (.int .i64 q.v1) ∧ w.cell? ⟨b, 3, none⟩ = some (.int .i64 q.v2) ∧ w.cell? ⟨b, 4, none⟩ = some (.int .i64 q.v3) ∧ w.cell? ⟨b, 5, none⟩ = some (.int .i64 q.t)
theorem sixS_of {w : World} {b : Nat} {q : Prt} (h : w.heap[b]? = some (.cells q.arr 89 (0, 0))) : sixS w b q := ⟨cell_blk h rfl, cell_blk h rfl, cell_blk h rfl, cell_blk h rfl, cell_blk h rfl, cell_blk h rfl⟩
section
variable {B : Nat} {G G' : Own} {W W' : World} {wb : Nat} {k : WK} {x : WX} {p : WP} {t t' : Nat} {a a' : AP} {Ad : Nat → Addr}
set_option maxHeartbeats 6400000 in
theorem get_ok (h : Wa B G W wb k t a) (id comp : Int) (hi : I64 id) {row : List Prt} (hl : look a.L id = some row) {q : Prt} (hq : pick row comp = some q) :
    Calls Tryz.prog 36 #[.pointer (some ⟨wb, 0, none⟩), .int .i64 id, .int .i64 comp] W fun e W' => e = .returned (.tuple #[.agg #[.int .i64 q.c, .int .i64 q.v0, .int .i64 q.v1, .int .i64 q.v2, .int .i64 q.v3, .int .i64 q.t], .nilIface]) ∧ Below W.heap.size W W' := by
  obtain ⟨p, i, g, s⟩ := h.stands hl
  obtain ⟨w0, hw0, b0, r0, -⟩ := blk_new (Below.refl W.heap.size W) zP
  have FN : Hid (Calls Tryz.prog 77 #[.pointer (some ⟨wb, 0, none⟩), .int .i64 id] w0 fun e w1 => e = .returned (.tuple #[.agg #[.int .i64 (i : Int), .int .i64 (g : Int)], .nilIface]) ∧ Below w0.heap.size w0 w1) := hid (find_ok (s.d.later b0).z id i g hi s.wh)
  have HI : Hid (∀ w, Below W.heap.size W w → Calls Tryz.prog 79 #[.pointer (some ⟨k.x.sb, 0, none⟩), .agg #[.int .i64 (i : Int), .int .i64 (g : Int)], .int .i64 comp] w fun e w' => e = .returned (.tuple #[.agg #[.int .i64 q.c, .int .i64 q.v0, .int .i64 q.v1, .int .i64 q.v2, .int .i64 q.v3, .int .i64 q.t], .nilIface]) ∧ Below w.heap.size w w') := hid fun w hb => s_get (s.d.later hb).z.st s.al comp q (by rw [s.at']; exact hq)
  have KK : Hid (∀ w, Below W.heap.size W w → w.cell? ⟨wb, 3, none⟩ = some (.pointer (some ⟨k.x.sb, 0, none⟩))) := hid fun w hb => (s.d.later hb).z.cell (j := 3) rfl
  have HW0 := hid hw0
  have B0 := hid b0
  have R0 := hid r0
  clear h s hl hw0 b0 r0 hq
  go_enter Tryz.func36, Tryz.ntmps36
  go_upto_region 1 with fail
  rw [← HW0.out]
  go_wp2_with fail
  refine FN.out.mono ?_
  rintro e w1 ⟨rfl, hb1⟩
  have hb := B0.out.trans (hb1.mono B0.out.size)
  obtain ⟨w2, hw2, b2, r2, k2⟩ := blk_new hb (.cells #[.int .i64 (i : Int), .int .i64 (g : Int)] 144)
  have HW2 := hid hw2
  have R2 := hid r2
  have Z2 := hid (blk_seen k2 (Nat.le_refl _) (blk_seen hb1 (Nat.le_refl _) R0.out))
  have HNN := hid hb.size
  clear hb FN hw2 r2 k2 hb1
  go_upto_region 4 with fail
  rw [← HW2.out]
  generalize hN1 : w1.heap.size = N1 at *
  have b2a := b2.alloc b2.size zP
  have b2ad := b2a.drew
  have b2s := b2.size
  have KE : Hid (∀ w, Below w2.heap.size w2 w → w.cell? ⟨wb, 3, none⟩ = some (.pointer (some ⟨k.x.sb, 0, none⟩)) ∧ w.cell? ⟨N1, 0, none⟩ = some (.int .i64 (i : Int)) ∧ w.cell? ⟨N1, 1, none⟩ = some (.int .i64 (g : Int))) := hid fun w hb => by
    have q := blk_seen hb (Nat.le_refl _) R2.out
    exact ⟨KK.out w (b2.trans (hb.mono b2.size)), cell_blk q rfl, cell_blk q rfl⟩
  have k0 : Below w2.heap.size w2 w2 := Below.refl _ _
  have k0a : Below w2.heap.size w2 (w2.alloc zP) := bAl w2 zP
  have k0d := k0.drew
  have k0ad := k0a.drew
  have hNl : N1 < w2.heap.size := (Array.getElem?_eq_some_iff.1 R2.out).1
  have hZl : W.heap.size < w2.heap.size := (Array.getElem?_eq_some_iff.1 Z2.out).1
  have HNA : Hid (∀ w, w = (w2.alloc zP).drew → Calls Tryz.prog 79 #[.pointer (some ⟨k.x.sb, 0, none⟩), .agg #[.int .i64 (i : Int), .int .i64 (g : Int)], .int .i64 comp] w fun e w' => e = .returned (.tuple #[.agg #[.int .i64 q.c, .int .i64 q.v0, .int .i64 q.v1, .int .i64 q.v2, .int .i64 q.v3, .int .i64 q.t], .nilIface]) ∧ (w'.cell? ⟨wb, 3, none⟩ = some (.pointer (some ⟨k.x.sb, 0, none⟩)) ∧ w'.cell? ⟨N1, 0, none⟩ = some (.int .i64 (i : Int)) ∧ w'.cell? ⟨N1, 1, none⟩ = some (.int .i64 (g : Int))) ∧ w'.frozen? ⟨w2.heap.size, 0, none⟩ = false ∧ w'.frozen? ⟨w2.heap.size, 1, none⟩ = false ∧ w'.frozen? ⟨w2.heap.size, 2, none⟩ = false ∧ w'.frozen? ⟨w2.heap.size, 3, none⟩ = false ∧ w'.frozen? ⟨w2.heap.size, 4, none⟩ = false ∧ w'.frozen? ⟨w2.heap.size, 5, none⟩ = false ∧ w'.cell? ⟨w2.heap.size, 0, none⟩ = some (.int .i64 0) ∧ w'.cell? ⟨w2.heap.size, 1, none⟩ = some (.int .i64 0) ∧ w'.cell? ⟨w2.heap.size, 2, none⟩ = some (.int .i64 0) ∧ w'.cell? ⟨w2.heap.size, 3, none⟩ = some (.int .i64 0) ∧ w'.cell? ⟨w2.heap.size, 4, none⟩ = some (.int .i64 0) ∧ w'.cell? ⟨w2.heap.size, 5, none⟩ = some (.int .i64 0) ∧ ((sx w' w2.heap.size q).cell? ⟨wb, 3, none⟩ = some (.pointer (some ⟨k.x.sb, 0, none⟩)) ∧ (sx w' w2.heap.size q).cell? ⟨N1, 0, none⟩ = some (.int .i64 (i : Int)) ∧ (sx w' w2.heap.size q).cell? ⟨N1, 1, none⟩ = some (.int .i64 (g : Int))) ∧ Hid (Below W.heap.size W (sx w' w2.heap.size q) ∧ (sx w' w2.heap.size q).heap[w2.heap.size]? = some (.cells q.arr 89 (0, 0)) ∧ (sx w' w2.heap.size q).heap[W.heap.size]? = some zP)) := hid fun w hw => by
    subst hw
    refine (HI.out _ b2ad).mono ?_
    rintro e w' ⟨rfl, q2⟩
    have q3 : Below w2.heap.size w2 w' := k0ad.trans (q2.mono k0ad.size)
    have z3 : w'.heap[w2.heap.size]? = some zP := blk_seen q2 (Nat.le_refl _) (heap_alloc_new w2 zP)
    have S6 := Rs.six_set (q := Prt.zero) (p := q) z3
    have q4 : Below w2.heap.size w2 (sx w' w2.heap.size q) := q3.trans (S6.2 w2.heap.size (Nat.le_refl _))
    have z9 := (S6.2 w2.heap.size (Nat.le_refl _)).block W.heap.size hZl
    exact ⟨rfl, KE.out _ q3, blk_free z3 0, blk_free z3 1, blk_free z3 2, blk_free z3 3, blk_free z3 4, blk_free z3 5, cell_blk z3 rfl, cell_blk z3 rfl, cell_blk z3 rfl, cell_blk z3 rfl, cell_blk z3 rfl, cell_blk z3 rfl, KE.out _ q4, b2.trans (q4.mono b2.size), S6.1, z9.trans (blk_seen q3 (Nat.le_refl _) Z2.out)⟩
  have HNB : Hid (∀ w, Below w2.heap.size w2 w → Calls Tryz.prog 79 #[.pointer (some ⟨k.x.sb, 0, none⟩), .agg #[.int .i64 (i : Int), .int .i64 (g : Int)], .int .i64 comp] w fun e w' => e = .returned (.tuple #[.agg #[.int .i64 q.c, .int .i64 q.v0, .int .i64 q.v1, .int .i64 q.v2, .int .i64 q.v3, .int .i64 q.t], .nilIface]) ∧ Below w2.heap.size w2 w') := hid fun w hb => by
    refine (HI.out _ (b2.trans (hb.mono b2.size))).mono ?_
    rintro e w' ⟨rfl, q2⟩
    exact ⟨rfl, hb.trans (q2.mono hb.size)⟩
  go_cut [9, 10] from 22 to 31 (fun ev pa wx => ∃ (N2 : Nat), pa = .pointer (some ⟨N2, 0, none⟩) ∧ ev = .nilIface ∧ Hid (W.heap.size ≠ N2 ∧ Below W.heap.size W wx ∧ wx.heap[N2]? = some (.cells q.arr 89 (0, 0)) ∧ wx.heap[W.heap.size]? = some zP))
  case first =>
    rename_i J K' hJ hK
    obtain ⟨c3, ce0, ce1⟩ := KE.out w2 k0
    go_region_held3 (fun w => w.cell? ⟨wb, 3, none⟩ = some (.pointer (some ⟨k.x.sb, 0, none⟩)) ∧ w.cell? ⟨N1, 0, none⟩ = some (.int .i64 (i : Int)) ∧ w.cell? ⟨N1, 1, none⟩ = some (.int .i64 (g : Int)))
      (first | (with_reducible assumption) | (refine KE.out _ ?_; with_reducible (repeat' (first | assumption | exact Below.size (by assumption) | refine Below.alloc ?_ ?_ _ | refine Below.drew ?_))) | fail)
      (first
        | (go_at_call 79; refine (HNA.out _ ?_).mono ?_; (with_reducible rfl); rintro e w3 ⟨rfl, hS3, f0, f1, f2, f3, f4, f5, y0, y1, y2, y3, y4, y5, hS6, Z3⟩)
        | (go_at_call 79; refine (HNB.out _ ?_).mono ?_; (with_reducible assumption); rintro e w3 ⟨rfl, b3⟩)
        | fail)
    · have e1 := heap_alloc_new w3 (.cells q.arr 89)
      have b4 := bAl w3 (.cells q.arr 89)
      have ne : W.heap.size ≠ w3.heap.size := by have := b3.size; omega
      have z4 := blk_seen b4 (Nat.le_refl _) (blk_seen b3 (Nat.le_refl _) Z2.out)
      have b5 : Below W.heap.size W (w3.alloc (.cells q.arr 89)) := (b2.trans (b3.mono b2s)).trans (b4.mono (Nat.le_trans b2s b3.size))
      clear HNA HNB HI KK KE c3 ce0 ce1
      exact hK _ _ (Met.intro (hJ _ _ ⟨_, _, _, _, _, _, _, _, _, _, _, _, ⟨_, rfl, rfl, ne, b5, e1, z4⟩, rfl⟩))
    · have ne : W.heap.size ≠ w2.heap.size := by omega
      clear HNA HNB HI KK KE c3 ce0 ce1 f0 f1 f2 f3 f4 f5 y0 y1 y2 y3 y4 y5
      exact hK _ _ (Met.intro (hJ _ _ ⟨_, _, _, _, _, _, _, _, _, _, _, _, ⟨_, rfl, rfl, ne, Z3.out.1, Z3.out.2.1, Z3.out.2.2⟩, rfl⟩))
  case rest =>
    rename World => wx
    obtain ⟨N2, rfl, rfl, HX⟩ := hcut
    obtain ⟨ne, bx, px, zx⟩ := HX.out
    have s0 := sixS_of px
    have bd0 : Below wx.heap.size wx wx.drew := (Below.refl _ _).drew
    have s0d : sixS wx.drew N2 q := sixS_of (blk_seen bd0 (Nat.le_refl _) px)
    have S6 := Rs.six_set (q := Prt.zero) (p := q) zx
    have c := fun (w : World) (j : Nat) (v : Value) => St.setCell (S := fun k => k = W.heap.size) (a := w) (p := ⟨W.heap.size, j, none⟩) v rfl
    have st : St (fun k => k = W.heap.size) wx (sx wx W.heap.size q) := (((((c wx 0 _).trans (c _ 1 _) fun _ _ q => q).trans (c _ 2 _) fun _ _ q => q).trans (c _ 3 _) fun _ _ q => q).trans (c _ 4 _) fun _ _ q => q).trans (c _ 5 _) fun _ _ q => q
    have s1 : sixS (sx wx W.heap.size q) N2 q := sixS_of (st.at px ne.symm)
    obtain ⟨wy, hwy⟩ : ∃ wy, wy = sx wx W.heap.size q := ⟨_, rfl⟩
    have bdy : Below wy.heap.size wy wy.drew := (Below.refl _ _).drew
    have p1y : wy.heap[N2]? = some (.cells q.arr 89 (0, 0)) := by rw [hwy]; exact st.at px ne.symm
    have s1d : sixS wy.drew N2 q := sixS_of (blk_seen bdy (Nat.le_refl _) p1y)
    have r6 : wy.heap[W.heap.size]? = some (.cells q.arr 89 (0, 0)) := by rw [hwy]; exact S6.1
    obtain ⟨z0, z1, z2, z3, z4, z5⟩ := sixS_of (blk_seen bdy (Nat.le_refl _) r6)
    have HBB : Hid (Below W.heap.size W wy.drew) := hid (by rw [hwy]; exact (bx.trans (S6.2 W.heap.size (Nat.le_refl _))).drew)
    have HWY := hwy
    unfold sx at HWY
    have HY := hid HWY
    rw [hwy] at s1d
    have f0 := blk_free zx 0
    have f1 := blk_free zx 1
    have f2 := blk_free zx 2
    have f3 := blk_free zx 3
    have f4 := blk_free zx 4
    have f5 := blk_free zx 5
    have y0 := cell_blk (j := 0) zx rfl
    have y1 := cell_blk (j := 1) zx rfl
    have y2 := cell_blk (j := 2) zx rfl
    have y3 := cell_blk (j := 3) zx rfl
    have y4 := cell_blk (j := 4) zx rfl
    have y5 := cell_blk (j := 5) zx rfl
    obtain ⟨p0, p1, p2, p3, p4, p5⟩ := sixS_of px
    clear HNA HNB HI KK KE HX b2 b2a b2ad k0 k0a k0d k0ad px zx bx c st S6 bdy p1y hwy bd0 r6 HWY
    go_upto_region 5 with fail
    go_region_held3 (fun w => sixS w N2 q)
      (first | (with_reducible assumption) | fail)
      (first | (go_at_call 38; refine (at_nil _ _).mono ?_; rintro e w4 ⟨rfl, rfl⟩) | fail)
    all_goals
      go_wp2_with fail
      rw [← HY.out]
      exact bodyPost_ret (v := .tuple #[.agg #[.int .i64 q.c, .int .i64 q.v0, .int .i64 q.v1, .int .i64 q.v2, .int .i64 q.v3, .int .i64 q.t], .nilIface]) (by simp [results, Tryz.results36, go_sem, z0, z1, z2, z3, z4, z5]) rfl ⟨rfl, HBB.out⟩
end
end Go.Proofs.YthadfdbkkmmgoaaGreatDoor.Wo
namespace Go.Proofs.YthadfdbkkmmgoaaGreatDoor.Or
open Go.RowKit Go.Shelf Go.Maps
open Go.Proofs.YthadfdbkkmmgoaaGreatDoor.At (St bAl cell_blk blk_seen blk_free)
open Go.Proofs.YthadfdbkkmmgoaaGreatDoor.Sc (Cmp Rsc CmpRow RscRow SmallC SmallQ checkL)
open Go.Proofs.YthadfdbkkmmgoaaGreatDoor.Rs (Prt)
open Go.Proofs.YthadfdbkkmmgoaaGreatDoor.Wo (Fin Up Ed at_es at_ed Ev st_mono WK AP Wa GoA PFree)
theorem Oz.lower {B B' : Nat} {H : Wo.Own} {W : World} {ob : Nat} {kv ov : Value} {x : OP} (h : Oz B H W ob kv ov x) (hB : B' ≤ B) : Oz B' H W ob kv ov x :=
  ⟨fun k q => by have := h.fin k q; omega, by have := h.big; omega, h.box, h.gw, h.kin, h.kow, h.few, h.row.lower hB, h.r7, h.len, h.can, h.n0⟩
section
variable {B B2 : Nat} {G H G' H' : Wo.Own} {W W' w2 : World} {wb ob : Nat} {kv ov ov' : Value} {k : WK} {t t' : Nat} {a a' : AP} {x x' : OP} {Ad : Nat → Addr}
theorem Pr.made (hw : Wa B G w2 wb k t a) (hb : Below w2.heap.size w2 W) (ho : Oz B2 H W ob kv ov x) (h2 : w2.heap.size ≤ B2) (hc : k.x.cs = x.cs) : Pr B G H W wb ob kv ov k t a x :=
  ⟨hw.later hb, ho.lower (by have := hw.big; omega), fun j hj => Classical.byContradiction fun q => by have := (hw.fin j hj).2; have := (ho.fin j q).1; omega, hc⟩
/-- A step of a world beside commands. -/
theorem Pr.go (h : Pr B G H W wb ob kv ov k t a x) (hg : GoA B G W W' wb k t' a') : ∃ G', Pr B G' H W' wb ob kv ov k t' a' x ∧ Bs G H G' H W W' := by
  obtain ⟨G', u, w⟩ := hg
  exact ⟨G', h.world u w, st_mono u.st fun j _ q => .inl (by omega), u.old, fun _ _ => rfl⟩
theorem Pr.turn (h : Pr B G H W wb ob kv ov k t a x) (hu : Up C47 H H' W W') (ho : Oz B H' W' ob kv ov' x') (hc : x'.cs = x.cs) : Pr B G H' W' wb ob kv ov' k t a x' ∧ Bs G H G H' W W' :=
  ⟨h.orders hu ho hc, st_mono hu.st fun j _ q => .inr (by rcases q with q | q <;> omega), fun _ _ => rfl, hu.old⟩
theorem Bs.bel (hs : Bs G H G' H' W W') (h : Pr B G H W wb ob kv ov k t a x) : Below B W W' := hs.st.below (fun j hj => by rcases hj with e | e; exact (h.wa.fin j e).1; exact (h.oz.fin j e).1) h.wa.big
end
def y1 : Od := ⟨1, 0, 1, 0⟩
def y2 : Od := ⟨2, 1, 0, 0⟩
def y3 : Od := ⟨1, 0, 0, 0⟩
def y0 : Od := ⟨0, 0, 0, 0⟩
theorem y_ok : y1.ok ∧ y2.ok ∧ y3.ok ∧ y0.ok := by
  refine ⟨⟨?_, ?_, ?_⟩, ⟨?_, ?_, ?_⟩, ⟨?_, ?_, ?_⟩, ⟨?_, ?_, ?_⟩⟩ <;> first | decide | exact Bd.I64_mid (by decide) (by decide) | exact Co.I64_mid (by decide) (by decide)
def aw0 : AP := ⟨[], 1, 0, 1, []⟩
def aw1 : AP := ⟨[(1, [])], 2, 0, 1, []⟩
def awP : Prt := ⟨0, 4, 5, 0, 0, 0⟩
def aw2 : AP := ⟨[(2, [awP])], 3, 0, 1, []⟩
theorem aw_spawn {k : WK} (h1 : k.x.cs = small3) (h2 : k.ws = [2, 1, 1]) (h3 : k.most = 4) : aw0.spawn k [] = (0, aw1, 1) := by
  obtain ⟨x, ws, most⟩ := k
  simp only at h2 h3
  subst h2 h3
  rfl
theorem aw_run {k : WK} (h1 : k.x.cs = small3) (h2 : k.ws = [2, 1, 1]) (h3 : k.most = 4) : runA k aw1 [y1, y2, y2] = ⟨2, 1, aw2⟩ := by
  obtain ⟨⟨sb, bb, gb, kv, cs, ns⟩, ws, most⟩ := k
  simp only at h1 h2 h3
  subst h1 h2 h3
  rfl
theorem aw_look : Wo.look aw2.L 2 = some [awP] ∧ Wo.pick [awP] 0 = some awP := ⟨rfl, rfl⟩
end Go.Proofs.YthadfdbkkmmgoaaGreatDoor.Or
namespace Go.Proofs.YthadfdbkkmmgoaaGreatDoor.Or
open Go.RowKit Go.Shelf Go.Maps
open Go.Proofs.YthadfdbkkmmgoaaGreatDoor.At (St bAl cell_blk blk_seen blk_free)
open Go.Proofs.YthadfdbkkmmgoaaGreatDoor.Sc (Cmp CmpRow)
open Go.Proofs.YthadfdbkkmmgoaaGreatDoor.Wo (Fin Up Ed at_es at_ed Ev st_mono)
section
variable {B : Nat} {H H' : Wo.Own} {W W' : World} {ob : Nat} {kv ov : Value} {x x' : OP} {Ad : Nat → Addr}
set_option maxHeartbeats 1600000 in
theorem add_arg (h : Oz B H W ob kv ov x) (hE : Env8 W Ad) (y : Od) (hy : y.ok) (hc : y.can x.cs.length = false) : Calls Tryz.prog 15 #[.pointer (some ⟨ob, 0, none⟩), .agg #[.int .i64 y.k, .int .i64 y.id, .int .u32 (y.m : Int), .int .i64 y.c]] W fun e W' => ∃ v, e = .returned v ∧ Ed Ad W' v 1 2 ∧ Below W.heap.size W W' := by
  obtain ⟨wa, hwa⟩ : ∃ wa, wa = W.alloc (.cells #[.int .i64 y.k, .int .i64 y.id, .int .u32 (y.m : Int), .int .i64 y.c] 48) := ⟨_, rfl⟩
  have ba : Below W.heap.size W wa := by rw [hwa]; exact bAl _ _
  have ra : wa.heap[W.heap.size]? = some (.cells #[.int .i64 y.k, .int .i64 y.id, .int .u32 (y.m : Int), .int .i64 y.c] 48 (0, 0)) := by rw [hwa]; exact heap_alloc_new W _
  have CK := hid (check_any (h.later ba) (hE.later ba) y hy.m)
  rw [hc] at CK
  unfold unK at CK
  simp only [Bool.false_eq_true, if_false] at CK
  have y0 : wa.cell? ⟨W.heap.size, 0, none⟩ = some (.int .i64 y.k) := cell_blk ra rfl
  have y1 : wa.cell? ⟨W.heap.size, 1, none⟩ = some (.int .i64 y.id) := cell_blk ra rfl
  have y2 : wa.cell? ⟨W.heap.size, 2, none⟩ = some (.int .u32 (y.m : Int)) := cell_blk ra rfl
  have y3 : wa.cell? ⟨W.heap.size, 3, none⟩ = some (.int .i64 y.c) := cell_blk ra rfl
  have HWA := hid hwa
  have BA := hid ba
  clear h hE hy hc hwa ba ra
  go_enter Tryz.func15, Tryz.ntmps15
  go_upto_region 1 with fail
  rw [← HWA.out]
  go_wp2_with fail
  refine CK.out.mono ?_
  rintro e w1 ⟨v, rfl, he, hb⟩
  have HB := hid (BA.out.trans (hb.mono BA.out.size))
  obtain ⟨t3, q3, rfl⟩ := he.ifc (by decide)
  have HE3 := hid he
  clear hb he CK y0 y1 y2 y3
  go_wp2_with fail
  refine (at_es _ HE3.out (by decide)).mono ?_
  rintro e w4 ⟨tt, qq, rfl, k1, k2⟩
  have HK := hid k1
  have HB4 := hid (HB.out.trans (k2.mono HB.out.size))
  clear k1 k2
  go_wp2_with fail
  go_ret
  exact ⟨_, rfl, HK.out, HB4.out⟩
/-- A sentinel inside one Blame. -/
theorem ed_blk {w : World} {b K : Nat} {s : ByteArray} (h : w.heap[b]? = some (.cells #[.string s, .iface 330 (.pointer (some (Ad K)))] 161 (0, 0))) (hk : 1 ≤ K ∧ K ≤ 18) : Ed Ad w (.iface 159 (.pointer (some ⟨b, 0, none⟩))) K 1 :=
  .inr ⟨by omega, _, _, rfl, 1, ⟨[s], ⟨b, _, rfl, (Array.getElem?_eq_some_iff.1 h).1, cell_blk h rfl, cell_blk h rfl, rfl⟩, hk.1, hk.2, Nat.le_refl _⟩, Nat.le_refl _⟩
set_option maxHeartbeats 3200000 in
theorem add_full (h : Oz B H W ob kv ov x) (hE : Ev B W Ad) (y : Od) (hy : y.ok) (hc : y.can x.cs.length = true) (hg : x.gv = x.most) (hd : x.dr < 1000000) : Calls Tryz.prog 15 #[.pointer (some ⟨ob, 0, none⟩), .agg #[.int .i64 y.k, .int .i64 y.id, .int .u32 (y.m : Int), .int .i64 y.c]] W fun e W' => ∃ b s, e = .returned (.iface 159 (.pointer (some ⟨b, 0, none⟩))) ∧ (W.heap.size ≤ b ∧ W'.heap[b]? = some (.cells #[.string s, .iface 330 (.pointer (some (Ad 6)))] 161 (0, 0))) ∧ Oz B H W' ob kv ov { x with dr := x.dr + 1 } ∧ Up C47 H H W W' := by
  obtain ⟨wa, hwa⟩ : ∃ wa, wa = W.alloc (.cells #[.int .i64 y.k, .int .i64 y.id, .int .u32 (y.m : Int), .int .i64 y.c] 48) := ⟨_, rfl⟩
  have ba : Below W.heap.size W wa := by rw [hwa]; exact bAl _ _
  have ra : wa.heap[W.heap.size]? = some (.cells #[.int .i64 y.k, .int .i64 y.id, .int .u32 (y.m : Int), .int .i64 y.c] 48 (0, 0)) := by rw [hwa]; exact heap_alloc_new W _
  have CK := hid (check_any (h.later ba) (hE.later ba).env y hy.m)
  rw [hc] at CK
  unfold unK at CK
  simp only [if_true] at CK
  have y0 : wa.cell? ⟨W.heap.size, 0, none⟩ = some (.int .i64 y.k) := cell_blk ra rfl
  have y1 : wa.cell? ⟨W.heap.size, 1, none⟩ = some (.int .i64 y.id) := cell_blk ra rfl
  have y2 : wa.cell? ⟨W.heap.size, 2, none⟩ = some (.int .u32 (y.m : Int)) := cell_blk ra rfl
  have y3 : wa.cell? ⟨W.heap.size, 3, none⟩ = some (.int .i64 y.c) := cell_blk ra rfl
  have HWA := hid hwa
  have BA := hid ba
  have HH := hid h
  have HE := hid hE
  have hn0 := h.n0
  have hw : IntKind.i64.wrap (x.dr + 1) = x.dr + 1 := Bd.wrap_mid (by omega) (by omega)
  have HN := hid hn0
  have HD := hid hd
  have HG := hid hg
  clear h hE hy hc hwa ba ra hn0 hd
  go_enter Tryz.func15, Tryz.ntmps15
  go_upto_region 1 with fail
  rw [← HWA.out]
  go_wp2_with fail
  refine CK.out.mono ?_
  rintro e w1 ⟨v, rfl, he, hb⟩
  obtain rfl := he.nil
  have b1 := BA.out.trans (hb.mono BA.out.size)
  have h1 := HH.out.later b1
  have c3 : w1.cell? ⟨ob, 3, none⟩ = some (.int .i64 x.most) := h1.cell (j := 3) rfl
  have c5 : w1.cell? ⟨ob, 5, none⟩ = some (.int .i64 x.gv) := h1.cell (j := 5) rfl
  have c6 : w1.cell? ⟨ob, 6, none⟩ = some (.int .i64 x.dr) := h1.cell (j := 6) rfl
  have f6 := blk_free h1.box 6
  have B1 := hid b1
  have OW := hid (h1.own (x' := { x with dr := x.dr + 1 }) (j := 6) (v := .int .i64 (x.dr + 1)) rfl rfl (by have h1 := HN.out; have h2 := HD.out; exact ⟨h1.1, h1.2.1, by show 0 ≤ x.dr + 1; omega, by show x.dr + 1 ≤ _; omega, h1.2.2.2.2⟩) rfl)
  have h17 : (w1.setCell ⟨ob, 6, none⟩ (.int .i64 (x.dr + 1))).cell? ⟨1, 0, none⟩ = some (.iface 330 (.pointer (some (Ad 6)))) := by
    have e1 := ((HE.out.later b1).bel (OW.out.2.bel (HH.out.later B1.out).fin (HH.out.later B1.out).big (by decide))).env.k6
    exact e1
  clear hb he CK y0 y1 y2 y3 h1 b1
  go_upto_region 6 with fail
  go_region
  all_goals
    clear c3 c5
    go_wp2_with fail
    refine (at_some _ _ _ _).mono ?_
    rintro e w4 ⟨rfl, hw4⟩
    have bd0 : Below (w1.setCell ⟨ob, 6, none⟩ (.int .i64 (x.dr + 1))).heap.size (w1.setCell ⟨ob, 6, none⟩ (.int .i64 (x.dr + 1))) (w1.setCell ⟨ob, 6, none⟩ (.int .i64 (x.dr + 1))).drew := (Below.refl _ _).drew
    have k2 : Below (w1.setCell ⟨ob, 6, none⟩ (.int .i64 (x.dr + 1))).drew.heap.size (w1.setCell ⟨ob, 6, none⟩ (.int .i64 (x.dr + 1))).drew w4 := by rw [hw4]; exact bAl _ _
    have HB4 := hid (bd0.trans (k2.mono bd0.size))
    have ez : (w1.setCell ⟨ob, 6, none⟩ (.int .i64 (x.dr + 1))).drew.heap.size = w1.heap.size := by simp
    have HR4 : Hid (w4.heap[w1.heap.size]? = some (.cells #[.string ⟨#[97, 100, 100]⟩, .iface 330 (.pointer (some (Ad 6)))] 161 (0, 0))) := hid (by rw [hw4, ← ez]; exact heap_alloc_new _ _)
    have hsz : Hid (W.heap.size ≤ w1.heap.size) := hid B1.out.size
    clear ez k2 h17 c6 f6 hw4
    go_wp2_with fail
    go_ret
    have u1 : Up C47 H H W w1 := Up.later HH.out.fin B1.out
    exact ⟨_, _, rfl, ⟨hsz.out, HR4.out⟩, OW.out.1.later HB4.out, (u1.trans OW.out.2).trans (Up.later OW.out.1.fin HB4.out)⟩
set_option maxHeartbeats 3200000 in
theorem add_ok (h : Oz B H W ob kv ov x) (hE : Ev B W Ad) (y : Od) (hy : y.ok) (hc : y.can x.cs.length = true) (hg : x.gv ≠ x.most) (hl : x.L.length < 900) : Calls Tryz.prog 15 #[.pointer (some ⟨ob, 0, none⟩), .agg #[.int .i64 y.k, .int .i64 y.id, .int .u32 (y.m : Int), .int .i64 y.c]] W fun e W' => e = .returned .nilIface ∧ ∃ H' ov', Oz B H' W' ob kv ov' { x with L := x.L ++ [y], gv := x.gv + 1 } ∧ Up C47 H H' W W' := by
  obtain ⟨wa, hwa⟩ : ∃ wa, wa = W.alloc (.cells #[.int .i64 y.k, .int .i64 y.id, .int .u32 (y.m : Int), .int .i64 y.c] 48) := ⟨_, rfl⟩
  have ba : Below W.heap.size W wa := by rw [hwa]; exact bAl _ _
  have ra : wa.heap[W.heap.size]? = some (.cells #[.int .i64 y.k, .int .i64 y.id, .int .u32 (y.m : Int), .int .i64 y.c] 48 (0, 0)) := by rw [hwa]; exact heap_alloc_new W _
  have CK := hid (check_any (h.later ba) (hE.later ba).env y hy.m)
  rw [hc] at CK
  unfold unK at CK
  simp only [if_true] at CK
  have y0 : wa.cell? ⟨W.heap.size, 0, none⟩ = some (.int .i64 y.k) := cell_blk ra rfl
  have y1 : wa.cell? ⟨W.heap.size, 1, none⟩ = some (.int .i64 y.id) := cell_blk ra rfl
  have y2 : wa.cell? ⟨W.heap.size, 2, none⟩ = some (.int .u32 (y.m : Int)) := cell_blk ra rfl
  have y3 : wa.cell? ⟨W.heap.size, 3, none⟩ = some (.int .i64 y.c) := cell_blk ra rfl
  have HWA := hid hwa
  have BA := hid ba
  have RA := hid ra
  have HH := hid h
  have HE := hid hE
  have hn0 := h.n0
  have hw : IntKind.i64.wrap (x.gv + 1) = x.gv + 1 := Bd.wrap_mid (by omega) (by omega)
  have HN := hid hn0
  have HY : Hid (y.ok ∧ y.can x.cs.length = true) := hid ⟨hy, hc⟩
  have HL := hid hl
  clear h hE hy hc hwa ba ra hn0 hl
  go_enter Tryz.func15, Tryz.ntmps15
  go_upto_region 1 with fail
  rw [← HWA.out]
  go_wp2_with fail
  refine CK.out.mono ?_
  rintro e w1 ⟨v, rfl, he, hb⟩
  obtain rfl := he.nil
  have b1 := BA.out.trans (hb.mono BA.out.size)
  have h1 := HH.out.later b1
  have c3 : w1.cell? ⟨ob, 3, none⟩ = some (.int .i64 x.most) := h1.cell (j := 3) rfl
  have c5 : w1.cell? ⟨ob, 5, none⟩ = some (.int .i64 x.gv) := h1.cell (j := 5) rfl
  have f5 := blk_free h1.box 5
  have B1 := hid b1
  have R1 := hid (blk_seen hb (Nat.le_refl _) RA.out)
  have OW := hid (h1.own (x' := { x with gv := x.gv + 1 }) (j := 5) (v := .int .i64 (x.gv + 1)) rfl rfl (by have h1 := HN.out; exact ⟨by show 0 ≤ x.gv + 1; omega, by show x.gv + 1 ≤ x.most; omega, h1.2.2.1, h1.2.2.2.1, h1.2.2.2.2⟩) rfl)
  have R2 := hid ((St.setCell (S := fun k => k = ob) (a := w1) (p := ⟨ob, 5, none⟩) (.int .i64 (x.gv + 1)) rfl).at R1.out (fun e => by
    have := (HH.out.fin ob (by rw [HH.out.gw]; decide)).2
    omega))
  clear hb he CK y0 y1 y2 y3 h1 b1
  go_upto_region 6 with fail
  go_region
  all_goals
    clear c3
    go_upto_region 10 with fail
    obtain ⟨w2, hw2⟩ : ∃ w2, w2 = (w1.setCell ⟨ob, 5, none⟩ (.int .i64 (x.gv + 1))).drew := ⟨_, rfl⟩
    have bd0 : Below (w1.setCell ⟨ob, 5, none⟩ (.int .i64 (x.gv + 1))).heap.size (w1.setCell ⟨ob, 5, none⟩ (.int .i64 (x.gv + 1))) (w1.setCell ⟨ob, 5, none⟩ (.int .i64 (x.gv + 1))).drew := (Below.refl _ _).drew
    have u1 : Up C47 H H W w1 := Up.later HH.out.fin B1.out
    have X2 : Oz B H w2 ob kv ov { x with gv := x.gv + 1 } ∧ Up C47 H H W w2 := by rw [hw2]; exact ⟨OW.out.1.later bd0, (u1.trans OW.out.2).trans (Up.later OW.out.1.fin bd0)⟩
    have Y2 : w2.heap[W.heap.size]? = some (.cells #[.int .i64 y.k, .int .i64 y.id, .int .u32 (y.m : Int), .int .i64 y.c] 48 (0, 0)) := by rw [hw2]; exact R2.out
    rw [← hw2]
    obtain ⟨oa, oc, rfl⟩ := X2.1.slice
    have c4 : w2.cell? ⟨ob, 4, none⟩ = some (.slice oa x.L.length oc) := X2.1.cell (j := 4) rfl
    have y0 : w2.cell? ⟨W.heap.size, 0, none⟩ = some (.int .i64 y.k) := cell_blk Y2 rfl
    have y1 : w2.cell? ⟨W.heap.size, 1, none⟩ = some (.int .i64 y.id) := cell_blk Y2 rfl
    have y2 : w2.cell? ⟨W.heap.size, 2, none⟩ = some (.int .u32 (y.m : Int)) := cell_blk Y2 rfl
    have y3 : w2.cell? ⟨W.heap.size, 3, none⟩ = some (.int .i64 y.c) := cell_blk Y2 rfl
    have l1 : W.heap.size < w2.heap.size := (Array.getElem?_eq_some_iff.1 Y2).1
    have l2 : ob < w2.heap.size := (Array.getElem?_eq_some_iff.1 X2.1.box).1
    have l1n : ¬ W.heap.size = w2.heap.size := by omega
    have l2n : ¬ ob = w2.heap.size := by omega
    have HX := hid X2
    have hl9 : x.L.length ≤ 1000 := by have := HL.out; omega
    have hbig : B ≤ w2.heap.size := X2.1.big
    clear hw2 X2 Y2 c5 f5 u1 bd0 OW R2
    go_region_law (refine step_ord (p := y) rfl _ _ rfl HX.out.1.row hl9 hbig HX.out.1.box rfl HX.out.1.ne rfl rfl ?_; intro g' cap w7 hg hx7 hf7)
    all_goals
      obtain ⟨q1, q2, q3, q4⟩ := hg.out
      have FN := hid (HX.out.1.push HL.out HY.out q1 q2 q3 q4)
      clear hg q1 q2 q3 q4
      go_wp2_with fail
      go_ret
      obtain ⟨H', k1, k2⟩ := FN.out
      exact ⟨rfl, H', ⟨_, k1⟩, HX.out.2.trans k2⟩
end
end Go.Proofs.YthadfdbkkmmgoaaGreatDoor.Or
