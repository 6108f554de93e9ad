/- Contracts: items asked for and told. -/
import Derived.Test.YthngdaeiopgigaaDoorSa
namespace Go.Proofs.YthngdaeiopgigaaDoor
open Go.ChangeShapes Go.WideShapes Go.ChangeAt Go.RowKit
def Itm.asked (x : Itm) : Itm := if x.kind = 4 then ⟨4, x.text.size, x.text, x.fl⟩ else if x.kind = 6 then ⟨6, x.fl.length, x.text, x.fl⟩ else x
def Itm.told (x : Itm) : Itm := if x.kind = 4 then ⟨4, 0, x.text, []⟩ else if x.kind = 5 then ⟨5, x.N % 4294967296, ⟨#[]⟩, []⟩ else if x.kind = 6 then ⟨6, 0, ⟨#[]⟩, x.fl⟩ else ⟨x.kind, x.N, ⟨#[]⟩, []⟩
set_option maxHeartbeats 1600000 in
set_option maxRecDepth 100000 in
theorem asked_any (x : Itm) (fv : Value) (hk : 1 ≤ x.kind ∧ x.kind ≤ 6) (w : World) (hF : Bools w fv x.fl) :
    Calls Tryd.prog 23 #[x.val fv] w fun e w' => e = .returned (x.asked.val fv) ∧ Below w.heap.size w w' := by
  obtain ⟨kd, N, text, fl⟩ := x
  obtain ⟨hk1, hk2⟩ := hk
  obtain ⟨fa, fc, rfl, _⟩ := id hF
  simp only [Itm.val] at *
  obtain rfl | rfl | rfl | rfl | rfl | rfl : kd = 1 ∨ kd = 2 ∨ kd = 3 ∨ kd = 4 ∨ kd = 5 ∨ kd = 6 := by omega
  · rw [show Itm.asked ⟨1, N, text, fl⟩ = ⟨1, N, text, fl⟩ from rfl]
    go_enter Tryd.func23, Tryd.ntmps23
    go_wp2
    exact bodyPost_ret (v := .agg #[.int .i64 1, .int .i64 N, .string text, .slice fa fl.length fc]) (by simp [results, Tryd.results23, go_sem]) rfl ⟨rfl, two_boxes _ _ _⟩
  · rw [show Itm.asked ⟨2, N, text, fl⟩ = ⟨2, N, text, fl⟩ from rfl]
    go_enter Tryd.func23, Tryd.ntmps23
    go_wp2
    exact bodyPost_ret (v := .agg #[.int .i64 2, .int .i64 N, .string text, .slice fa fl.length fc]) (by simp [results, Tryd.results23, go_sem]) rfl ⟨rfl, two_boxes _ _ _⟩
  · rw [show Itm.asked ⟨3, N, text, fl⟩ = ⟨3, N, text, fl⟩ from rfl]
    go_enter Tryd.func23, Tryd.ntmps23
    go_wp2
    exact bodyPost_ret (v := .agg #[.int .i64 3, .int .i64 N, .string text, .slice fa fl.length fc]) (by simp [results, Tryd.results23, go_sem]) rfl ⟨rfl, two_boxes _ _ _⟩
  · rw [show Itm.asked ⟨4, N, text, fl⟩ = ⟨4, text.size, text, fl⟩ from rfl]
    go_enter Tryd.func23, Tryd.ntmps23
    go_wp2
    exact bodyPost_ret (v := .agg #[.int .i64 4, .int .i64 text.size, .string text, .slice fa fl.length fc]) (by simp [results, Tryd.results23, go_sem]) rfl ⟨rfl, two_boxes _ _ _⟩
  · rw [show Itm.asked ⟨5, N, text, fl⟩ = ⟨5, N, text, fl⟩ from rfl]
    go_enter Tryd.func23, Tryd.ntmps23
    go_wp2
    exact bodyPost_ret (v := .agg #[.int .i64 5, .int .i64 N, .string text, .slice fa fl.length fc]) (by simp [results, Tryd.results23, go_sem]) rfl ⟨rfl, two_boxes _ _ _⟩
  · rw [show Itm.asked ⟨6, N, text, fl⟩ = ⟨6, fl.length, text, fl⟩ from rfl]
    go_enter Tryd.func23, Tryd.ntmps23
    go_wp2
    exact bodyPost_ret (v := .agg #[.int .i64 6, .int .i64 fl.length, .string text, .slice fa fl.length fc]) (by simp [results, Tryd.results23, go_sem]) rfl ⟨rfl, two_boxes _ _ _⟩
set_option maxHeartbeats 1600000 in
set_option maxRecDepth 100000 in
theorem told_item (x : Itm) (fv : Value) (hk : 1 ≤ x.kind ∧ x.kind ≤ 6) (w : World) (hF : Bools w fv x.fl) :
    Calls Tryd.prog 24 #[x.val fv] w fun e w' => (∃ v, e = .returned (x.told.val v) ∧ Bools w' v x.told.fl) ∧ Below w.heap.size w w' := by
  obtain ⟨kd, N, text, fl⟩ := x
  obtain ⟨hk1, hk2⟩ := hk
  obtain ⟨fa, fc, rfl, _⟩ := id hF
  simp only [Itm.val] at *
  obtain rfl | rfl | rfl | rfl | rfl | rfl : kd = 1 ∨ kd = 2 ∨ kd = 3 ∨ kd = 4 ∨ kd = 5 ∨ kd = 6 := by omega
  · rw [show Itm.told ⟨1, N, text, fl⟩ = ⟨1, N, ⟨#[]⟩, []⟩ from rfl]
    go_enter Tryd.func24, Tryd.ntmps24
    go_wp2
    exact bodyPost_ret (v := .agg #[.int .i64 1, .int .i64 N, .string ⟨#[]⟩, .slice none 0 0]) (by simp [results, Tryd.results24, go_sem]) rfl ⟨⟨_, rfl, Bools.nil _⟩, two_boxes _ _ _⟩
  · rw [show Itm.told ⟨2, N, text, fl⟩ = ⟨2, N, ⟨#[]⟩, []⟩ from rfl]
    go_enter Tryd.func24, Tryd.ntmps24
    go_wp2
    exact bodyPost_ret (v := .agg #[.int .i64 2, .int .i64 N, .string ⟨#[]⟩, .slice none 0 0]) (by simp [results, Tryd.results24, go_sem]) rfl ⟨⟨_, rfl, Bools.nil _⟩, two_boxes _ _ _⟩
  · rw [show Itm.told ⟨3, N, text, fl⟩ = ⟨3, N, ⟨#[]⟩, []⟩ from rfl]
    go_enter Tryd.func24, Tryd.ntmps24
    go_wp2
    exact bodyPost_ret (v := .agg #[.int .i64 3, .int .i64 N, .string ⟨#[]⟩, .slice none 0 0]) (by simp [results, Tryd.results24, go_sem]) rfl ⟨⟨_, rfl, Bools.nil _⟩, two_boxes _ _ _⟩
  · rw [show Itm.told ⟨4, N, text, fl⟩ = ⟨4, 0, text, []⟩ from rfl]
    go_enter Tryd.func24, Tryd.ntmps24
    go_wp2
    exact bodyPost_ret (v := .agg #[.int .i64 4, .int .i64 0, .string text, .slice none 0 0]) (by simp [results, Tryd.results24, go_sem]) rfl ⟨⟨_, rfl, Bools.nil _⟩, two_boxes _ _ _⟩
  · rw [show Itm.told ⟨5, N, text, fl⟩ = ⟨5, (N % 4294967296), ⟨#[]⟩, []⟩ from rfl]
    have hwr : IntKind.u32.wrap N = N % 4294967296 := IntKind.wrap_u32' N
    go_enter Tryd.func24, Tryd.ntmps24
    go_wp2
    exact bodyPost_ret (v := .agg #[.int .i64 5, .int .i64 (N % 4294967296), .string ⟨#[]⟩, .slice none 0 0]) (by simp [results, Tryd.results24, go_sem]) rfl ⟨⟨_, rfl, Bools.nil _⟩, two_boxes _ _ _⟩
  · rw [show Itm.told ⟨6, N, text, fl⟩ = ⟨6, 0, ⟨#[]⟩, fl⟩ from rfl]
    go_enter Tryd.func24, Tryd.ntmps24
    go_wp2
    exact bodyPost_ret (v := .agg #[.int .i64 6, .int .i64 0, .string ⟨#[]⟩, .slice fa fl.length fc]) (by simp [results, Tryd.results24, go_sem]) rfl ⟨⟨_, rfl, hF.later (two_boxes _ _ _)⟩, two_boxes _ _ _⟩
end Go.Proofs.YthngdaeiopgigaaDoor
