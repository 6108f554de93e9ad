/- The law's own steps: what is carried from world to world. -/
import Derived.Test.YthngdaeiopgigaaDoorMc
import Derived.Deep.RegionHeld3
import Derived.Deep.DrawnRows
namespace Go.Proofs.YthngdaeiopgigaaDoor
open Go.ChangeShapes Go.WideShapes Go.ChangeAt Go.RowKit
set_option maxHeartbeats 1600000 in
set_option maxRecDepth 100000 in
theorem told_from (x : Itm) (fv : Value) (hk : 1 ≤ x.kind ∧ x.kind ≤ 6) (w0 w : World) (hF : Bools w0 fv x.fl) :
    Calls Tryd.prog 24 #[x.val fv] w fun e w' => (∃ v, e = .returned (x.told.val v) ∧ ∀ W, Below w0.heap.size w0 W → Bools W v x.told.fl) ∧ Below w.heap.size w w' := by
  obtain ⟨kd, N, text, fl⟩ := x
  obtain ⟨hk1, hk2⟩ := hk
  obtain ⟨fa, fc, rfl, _⟩ := id hF
  simp only [Itm.val] at *
  obtain rfl | rfl | rfl | rfl | rfl | rfl : kd = 1 ∨ kd = 2 ∨ kd = 3 ∨ kd = 4 ∨ kd = 5 ∨ kd = 6 := by omega
  · rw [show Itm.told ⟨1, N, text, fl⟩ = ⟨1, N, ⟨#[]⟩, []⟩ from rfl]
    go_enter Tryd.func24, Tryd.ntmps24
    go_wp2
    exact bodyPost_ret (v := .agg #[.int .i64 1, .int .i64 N, .string ⟨#[]⟩, .slice none 0 0]) (by simp [results, Tryd.results24, go_sem]) rfl ⟨⟨_, rfl, fun _ _ => Bools.nil _⟩, two_boxes _ _ _⟩
  · rw [show Itm.told ⟨2, N, text, fl⟩ = ⟨2, N, ⟨#[]⟩, []⟩ from rfl]
    go_enter Tryd.func24, Tryd.ntmps24
    go_wp2
    exact bodyPost_ret (v := .agg #[.int .i64 2, .int .i64 N, .string ⟨#[]⟩, .slice none 0 0]) (by simp [results, Tryd.results24, go_sem]) rfl ⟨⟨_, rfl, fun _ _ => Bools.nil _⟩, two_boxes _ _ _⟩
  · rw [show Itm.told ⟨3, N, text, fl⟩ = ⟨3, N, ⟨#[]⟩, []⟩ from rfl]
    go_enter Tryd.func24, Tryd.ntmps24
    go_wp2
    exact bodyPost_ret (v := .agg #[.int .i64 3, .int .i64 N, .string ⟨#[]⟩, .slice none 0 0]) (by simp [results, Tryd.results24, go_sem]) rfl ⟨⟨_, rfl, fun _ _ => Bools.nil _⟩, two_boxes _ _ _⟩
  · rw [show Itm.told ⟨4, N, text, fl⟩ = ⟨4, 0, text, []⟩ from rfl]
    go_enter Tryd.func24, Tryd.ntmps24
    go_wp2
    exact bodyPost_ret (v := .agg #[.int .i64 4, .int .i64 0, .string text, .slice none 0 0]) (by simp [results, Tryd.results24, go_sem]) rfl ⟨⟨_, rfl, fun _ _ => Bools.nil _⟩, two_boxes _ _ _⟩
  · rw [show Itm.told ⟨5, N, text, fl⟩ = ⟨5, (N % 4294967296), ⟨#[]⟩, []⟩ from rfl]
    have hwr : IntKind.u32.wrap N = N % 4294967296 := IntKind.wrap_u32' N
    go_enter Tryd.func24, Tryd.ntmps24
    go_wp2
    exact bodyPost_ret (v := .agg #[.int .i64 5, .int .i64 (N % 4294967296), .string ⟨#[]⟩, .slice none 0 0]) (by simp [results, Tryd.results24, go_sem]) rfl ⟨⟨_, rfl, fun _ _ => Bools.nil _⟩, two_boxes _ _ _⟩
  · rw [show Itm.told ⟨6, N, text, fl⟩ = ⟨6, 0, ⟨#[]⟩, fl⟩ from rfl]
    go_enter Tryd.func24, Tryd.ntmps24
    go_wp2
    exact bodyPost_ret (v := .agg #[.int .i64 6, .int .i64 0, .string ⟨#[]⟩, .slice fa fl.length fc]) (by simp [results, Tryd.results24, go_sem]) rfl ⟨⟨_, rfl, fun _ h => hF.later h⟩, two_boxes _ _ _⟩
theorem Its.later {w w' : World} {v : Value} {xs : List (Itm × Value)} (h : Its w v xs) (hb : Below w.heap.size w w') : Its w' v xs := by
  refine ⟨?_, fun x hx => (h.bools x hx).later hb, h.nums⟩
  obtain ⟨a, c, h1, h2⟩ := h.lay
  refine ⟨a, c, h1, ?_⟩
  rcases h2 with h2 | ⟨b, o, h3, h4⟩
  · exact .inl h2
  · refine .inr ⟨b, o, h3, fun j x hj => ?_⟩
    obtain ⟨k0, k1, k2, k3⟩ := h4 j x hj
    have hlt : b < w.heap.size := World.block_lt_of_cell? w _ k0
    exact ⟨(hb.cell (p := ⟨b, _, none⟩) hlt).trans k0, (hb.cell (p := ⟨b, _, none⟩) hlt).trans k1, (hb.cell (p := ⟨b, _, none⟩) hlt).trans k2, (hb.cell (p := ⟨b, _, none⟩) hlt).trans k3⟩
/-- Two readers of the call's own. -/
structure Car (w W : World) (br bq : Nat) (st sq : RS) : Prop where
  bel : Below w.heap.size w W
  rd : Rd W br st
  rq : Rd W bq sq
  ne : br ≠ bq
  lr : w.heap.size ≤ br
  lq : w.heap.size ≤ bq
theorem Car.new {w W W' : World} {br bq : Nat} {st sq : RS} (h : Car w W br bq st sq) (hb : Below W.heap.size W W') : Car w W' br bq st sq :=
  ⟨h.bel.trans (hb.mono h.bel.size), h.rd.new hb, h.rq.new hb, h.ne, h.lr, h.lq⟩
theorem Car.got {w W W' : World} {br bq : Nat} {st st' sq : RS} (h : Car w W br bq st sq) (hr : Rd W' br st') (hk : Kp (fun k => k = br) W W') : Car w W' br bq st' sq :=
  ⟨h.bel.trans (hk.below h.bel.size (fun k e => by rw [e]; exact h.lr)), hr, h.rq.kept (hk.block bq h.rq.foots.lt (fun e => h.ne e.symm)), h.ne, h.lr, h.lq⟩
theorem Car.gotq {w W W' : World} {br bq : Nat} {st sq sq' : RS} (h : Car w W br bq st sq) (hr : Rd W' bq sq') (hk : Kp (fun k => k = bq) W W') : Car w W' br bq st sq' :=
  ⟨h.bel.trans (hk.below h.bel.size (fun k e => by rw [e]; exact h.lq)), h.rd.kept (hk.block br h.rd.foots.lt (fun e => h.ne e)), hr, h.ne, h.lr, h.lq⟩
theorem Car.drewN {w W : World} {br bq : Nat} {st sq : RS} (h : Car w W br bq st sq) (n : Nat) : Car w (W.drewN n) br bq st sq := ⟨h.bel.drewN n, h.rd, h.rq, h.ne, h.lr, h.lq⟩
theorem Car.drew {w W : World} {br bq : Nat} {st sq : RS} (h : Car w W br bq st sq) : Car w W.drew br bq st sq := ⟨h.bel.drew, h.rd, h.rq, h.ne, h.lr, h.lq⟩
end Go.Proofs.YthngdaeiopgigaaDoor
