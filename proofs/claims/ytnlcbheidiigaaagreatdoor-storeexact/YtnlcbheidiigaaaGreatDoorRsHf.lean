/- A part of StoreExact. -/
import Derived.Test.YtnlcbheidiigaaaGreatDoorRsHe
import Derived.Test.YtnlcbheidiigaaaGreatDoorRsHz
namespace Go.Proofs.YtnlcbheidiigaaaGreatDoor
namespace Sc
open Go.RowKit Go.Shelf
def LOk (p : List ByteArray × Nat) : Prop := (joinB p.1).size ≤ 100000 ∧ p.1.length ≤ 1000
theorem ok_one (l : ByteArray) (k : Nat) (h : l.size ≤ 100) : LOk ([l], k) := ⟨by show (joinB [l]).size ≤ _; rw [joinB_one]; omega, by simp⟩
theorem ok_three (l p : ByteArray) (i k : Nat) (hi : i < 100) (hl : l.size ≤ 100) (hp : p.size ≤ 100) : LOk ([l, dig i, p], k) := by
 refine ⟨?_, by simp⟩
 show (joinB [l, dig i, p]).size ≤ _
 have e : (⟨#[47]⟩ : ByteArray).size = 1 := rfl
 have := dig_size i hi
 rw [joinB_more _ _ (by simp), joinB_more _ _ (by simp), joinB_one, ByteArray.size_append, ByteArray.size_append, ByteArray.size_append, ByteArray.size_append, e]
 omega
theorem at3_ok (l p : ByteArray) (i : Nat) (ns : List Nat) (hi : i < 100) (hl : l.size ≤ 100) (hp : p.size ≤ 100) : ∀ q ∈ at3 l i p ns, LOk q := by
 intro q hq
 obtain ⟨k, -, rfl⟩ := List.mem_map.1 hq
 exact ok_three l p i k hi hl hp
theorem manyL_ok (l : ByteArray) (m n : Nat) (hl : l.size ≤ 100) : ∀ q ∈ manyL l m n, LOk q := by
 intro q hq
 unfold manyL at hq
 split at hq
 ·simp at hq; subst hq; exact ok_one l 4 hl
 ·simp at hq
theorem compL_ok (cs : List Cmp) : ∀ k, k ≤ 100 → ∀ q ∈ compL cs k, LOk q
 | 0, _ => by simp [compL]
 | k + 1, h => by
  intro q hq
  have ih := compL_ok cs k (by omega)
  rcases List.mem_append.1 hq with hq | hq
  ·exact ih q hq
  ·cases hc : cs[k]? with
   | none => simp [hc] at hq
   | some c =>
    simp only [hc, leafC, List.mem_append] at hq
    rcases hq with hq | hq | hq
    ·exact at3_ok bComps bName k _ (by omega) (by decide) (by decide) q hq
    ·exact at3_ok bComps bWidth k _ (by omega) (by decide) (by decide) q hq
    ·exact at3_ok bComps bDefault k _ (by omega) (by decide) (by decide) q hq
theorem resL_ok (cs : List Cmp) (rs : List Rsc) : ∀ k, k ≤ 100 → ∀ q ∈ resL cs rs k, LOk q
 | 0, _ => by simp [resL]
 | k + 1, h => by
  intro q hq
  have ih := resL_ok cs rs k (by omega)
  rcases List.mem_append.1 hq with hq | hq
  ·exact ih q hq
  ·cases hc : rs[k]? with
   | none => simp [hc] at hq
   | some c =>
    simp only [hc] at hq
    exact at3_ok bRes bName k _ (by omega) (by decide) (by decide) q hq
theorem checkL_ok (cs : List Cmp) (rs : List Rsc) (hc : cs.length ≤ 40) (hr : rs.length ≤ 40) : (∀ q ∈ checkL cs rs, LOk q) ∧ (checkL cs rs).length ≤ 200 := by
 constructor
 ·intro q hq
  simp only [checkL, List.mem_append] at hq
  rcases hq with (hq | hq) | (hq | hq)
  ·exact manyL_ok bComps _ _ (by decide) q hq
  ·exact compL_ok cs _ (by omega) q hq
  ·exact manyL_ok bRes _ _ (by decide) q hq
  ·exact resL_ok cs rs _ (by omega) q hq
 ·simp only [checkL, List.length_append]
  have := manyL_len bComps 16 cs.length
  have := compL_len cs cs.length
  have := manyL_len bRes 8 rs.length
  have := resL_len cs rs rs.length
  omega
theorem compL_nil {cs : List Cmp} : ∀ m k, k ≤ m → compL cs m = [] → compL cs k = []
 | 0, k, h, e => by obtain rfl : k = 0 := (by omega); exact e
 | m + 1, k, h, e => by
  by_cases q : k = m + 1
  ·subst q; exact e
  ·refine compL_nil m k (by omega) ?_
   rw [compL] at e
   exact (List.append_eq_nil_iff.1 e).1
theorem chk_cmp {cs : List Cmp} {rs : List Rsc} (h : checkL cs rs = []) : cs.length ≤ 16 ∧ ∀ c ∈ cs, 1 ≤ c.wd ∧ c.wd ≤ 4 := by
 unfold checkL at h
 obtain ⟨h1, -⟩ := List.append_eq_nil_iff.1 h
 obtain ⟨h3, h4⟩ := List.append_eq_nil_iff.1 h1
 have hl : cs.length ≤ 16 := by
  unfold manyL at h3
  split at h3
  ·cases h3
  ·omega
 refine ⟨hl, fun c hc => ?_⟩
 obtain ⟨k, hk, rfl⟩ := List.getElem_of_mem hc
 have e := compL_nil cs.length (k + 1) (by omega) h4
 rw [compL_next (List.getElem?_eq_getElem hk)] at e
 have e2 := (List.append_eq_nil_iff.1 e).2
 unfold leafC at e2
 have e3 := (List.append_eq_nil_iff.1 (List.append_eq_nil_iff.1 e2).2).1
 have e4 : wErr cs[k] = [] := by unfold at3 at e3; exact List.map_eq_nil_iff.1 e3
 unfold wErr at e4
 split at e4
 ·rename_i hw
  unfold wOk at hw
  simp at hw
  omega
 ·cases e4
theorem chk_ws {cs : List Cmp} {rs : List Rsc} (h : checkL cs rs = []) : ∃ ws : List Nat, cs.map (fun c => c.wd) = ws.map (fun (w : Nat) => (w : Int)) ∧ Rs.okW ws := by
 obtain ⟨h1, h2⟩ := chk_cmp h
 refine ⟨cs.map fun c => c.wd.toNat, ?_, by simpa using h1, fun w hw => ?_⟩
 ·rw [List.map_map]
  refine List.map_congr_left fun c hc => ?_
  have := h2 c hc
  show c.wd = ((c.wd.toNat : Nat) : Int)
  omega
 ·obtain ⟨c, hc, rfl⟩ := List.mem_map.1 hw
  have := h2 c hc
  omega
end Sc
namespace Rs
open Go.RowKit Go.Shelf Go.Maps
open At (cell_blk blk_free)
open Co (I64)
theorem neqE (i g : Int) (hi : I64 i) (hg : I64 g) (w : World) : (binOp .neq 43 (.agg #[.int .i64 i, .int .i64 g]) (.agg #[.int .i64 i, .int .i64 g])).run Tryz.prog w = .ok (.bool false) w := by
 have := Ro.neq_ent i g i g hi hg hi hg w
 simpa using this
set_option maxHeartbeats 1600000 in
set_option maxRecDepth 100000 in
theorem who_any (W : World) (kd n ei eg : Int) (la : Option Addr) (ll lc : Nat) (p : Prt) (comp cell value : Int) (m v : Nat) {B : Nat} (ga : Option Addr) (gc : Nat) (gl : List (Nat × Nat)) (hG : Ro.Ents B W (.slice ga gl.length gc) gl) (hg : gl.length ≤ 1000) :
  Calls Tryz.prog 15 #[.agg #[.int .i64 kd, .int .i64 n, .int .i64 ei, .int .i64 eg, .slice la ll lc, .int .i64 p.c, .int .i64 p.v0, .int .i64 p.v1, .int .i64 p.v2, .int .i64 p.v3, .int .i64 p.t, .int .i64 comp, .int .i64 cell, .int .i64 value, .int .u32 (m : Int), .int .u32 (v : Int)], .slice ga gl.length gc] W fun e W' => e = .returned (.agg #[.int .i64 (whoL n ei eg gl).1, .int .i64 (whoL n ei eg gl).2]) ∧ Below W.heap.size W W' := by
 obtain ⟨b2, k1, k2⟩ := two_blk W #[.int .i64 kd, .int .i64 n, .int .i64 ei, .int .i64 eg, .slice la ll lc, .int .i64 p.c, .int .i64 p.v0, .int .i64 p.v1, .int .i64 p.v2, .int .i64 p.v3, .int .i64 p.t, .int .i64 comp, .int .i64 cell, .int .i64 value, .int .u32 (m : Int), .int .u32 (v : Int)] #[.int .i64 0, .int .i64 0] 51 43
 obtain ⟨W2, hW2⟩ : ∃ W2, W2 = (W.alloc (.cells #[.int .i64 kd, .int .i64 n, .int .i64 ei, .int .i64 eg, .slice la ll lc, .int .i64 p.c, .int .i64 p.v0, .int .i64 p.v1, .int .i64 p.v2, .int .i64 p.v3, .int .i64 p.t, .int .i64 comp, .int .i64 cell, .int .i64 value, .int .u32 (m : Int), .int .u32 (v : Int)] 51)).alloc (.cells #[.int .i64 0, .int .i64 0] 43) := ⟨_, rfl⟩
 rw [← hW2] at b2 k1 k2
 have GG := hid (Ro.Ents.later hG b2)
 have y1 : W2.cell? ⟨W.heap.size, 1, none⟩ = some (.int .i64 n) := cell_blk k1 rfl
 have y2 : W2.cell? ⟨W.heap.size, 2, none⟩ = some (.int .i64 ei) := cell_blk k1 rfl
 have y3 : W2.cell? ⟨W.heap.size, 3, none⟩ = some (.int .i64 eg) := cell_blk k1 rfl
 have z0 : W2.cell? ⟨W.heap.size + 1, 0, none⟩ = some (.int .i64 0) := cell_blk k2 rfl
 have z1 : W2.cell? ⟨W.heap.size + 1, 1, none⟩ = some (.int .i64 0) := cell_blk k2 rfl
 have fz := fun j => blk_free k2 j
 have fy := fun j => blk_free k1 j
 have hgi : (gl.length : Int) ≤ 1000 := by omega
 have HW2 := hid hW2
 have B2 := hid b2
 have K2 := hid k2
 have EM : Hid (∀ a b : Int, ((W2.setCell ⟨W.heap.size + 1, 0, none⟩ (.int .i64 a)).setCell ⟨W.heap.size + 1, 1, none⟩ (.int .i64 b)).cell? ⟨W.heap.size + 1, 0, none⟩ = some (.int .i64 a) ∧ ((W2.setCell ⟨W.heap.size + 1, 0, none⟩ (.int .i64 a)).setCell ⟨W.heap.size + 1, 1, none⟩ (.int .i64 b)).cell? ⟨W.heap.size + 1, 1, none⟩ = some (.int .i64 b) ∧ Below W.heap.size W ((W2.setCell ⟨W.heap.size + 1, 0, none⟩ (.int .i64 a)).setCell ⟨W.heap.size + 1, 1, none⟩ (.int .i64 b))) := fun a b => by
  have q := So.zero_ent K2.out (.int .i64 a) (.int .i64 b)
  exact ⟨cell_blk q rfl, cell_blk q rfl, (B2.out.setCell (p := ⟨W.heap.size + 1, 0, none⟩) (by simp) _).setCell (p := ⟨W.heap.size + 1, 1, none⟩) (by simp) _⟩
 clear hW2 b2 k1 k2 hG
 by_cases hn : n < 0
 ·have E : Hid (whoL n ei eg gl = (ei, eg)) := by show _ = _; unfold whoL; rw [if_pos (.inl hn)]
  obtain ⟨e0, e1, e2⟩ := EM.out ei eg
  have E2 := hid e2
  go_enter Tryz.func15, Tryz.ntmps15
  go_upto_region 1 with fail
  rw [← HW2.out]
  clear e2 EM
  go_wp2_with fail
  rw [E.out]
  exact bodyPost_ret (v := .agg #[.int .i64 ei, .int .i64 eg]) (by simp [results, Tryz.results15, go_sem, e0, e1]) rfl ⟨rfl, E2.out⟩
 ·by_cases h0 : gl = []
  ·have E : Hid (whoL n ei eg gl = (ei, eg)) := by show _ = _; unfold whoL; rw [if_pos (.inr h0)]
   subst h0
   obtain ⟨e0, e1, e2⟩ := EM.out ei eg
   have E2 := hid e2
   go_enter Tryz.func15, Tryz.ntmps15
   go_upto_region 1 with fail
   rw [← HW2.out]
   clear e2 EM
   go_wp2_with fail
   rw [E.out]
   exact bodyPost_ret (v := .agg #[.int .i64 ei, .int .i64 eg]) (by simp [results, Tryz.results15, go_sem, e0, e1]) rfl ⟨rfl, E2.out⟩
  ·obtain ⟨nn, rfl⟩ : ∃ nn : Nat, n = (nn : Int) := ⟨n.toNat, by omega⟩
   have hlp : 0 < gl.length := List.length_pos_iff.2 h0
   have hr : nn % gl.length < gl.length := Nat.mod_lt _ hlp
   obtain ⟨z, hz⟩ := at_lt gl (nn % gl.length) hr
   have E : Hid (whoL (nn : Int) ei eg gl = ((z.1 : Int), (z.2 : Int))) := by
    show _ = _
    unfold whoL
    rw [if_neg (fun q => q.elim hn h0), Int.toNat_natCast, List.getD_eq_getElem?_getD, hz]
    rfl
   obtain ⟨gb, rfl, -, -⟩ := GG.out.some hlp
   obtain ⟨d0, d1⟩ := GG.out.cell hz
   have hne : ((gl.length : Int) == 0) = false := by simp; omega
   have hne2 : ¬ ((gl.length : Int) = 0) := by omega
   have hpos : (0 : Int) < (gl.length : Int) := by omega
   have hn0 : (0 : Int) ≤ (nn : Int) := by omega
   have RM : (nn : Int) % (gl.length : Int) = ((nn % gl.length : Nat) : Int) := by simp
   have hri : ((nn % gl.length : Nat) : Int) < (gl.length : Int) := by omega
   obtain ⟨e0, e1, e2⟩ := EM.out (z.1 : Int) (z.2 : Int)
   have E2 := hid e2
   clear hz h0 hr
   generalize nn % gl.length = r at *
   go_enter Tryz.func15, Tryz.ntmps15
   go_upto_region 1 with fail
   rw [← HW2.out]
   clear e2 EM
   go_wp2_with fail
   rw [E.out]
   exact bodyPost_ret (v := .agg #[.int .i64 (z.1 : Int), .int .i64 (z.2 : Int)]) (by simp [results, Tryz.results15, go_sem, e0, e1]) rfl ⟨rfl, E2.out⟩
end Rs
end Go.Proofs.YtnlcbheidiigaaaGreatDoor
