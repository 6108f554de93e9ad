/- The document's badges: Turn where there is no pair, List. -/
import Derived.Test.YtiebbedpjogjfaaDoorBdCj
namespace Go.Proofs.YtiebbedpjogjfaaDoor.Bd
open Go.RowKit Go.Shelf Go.Maps
section
variable {B : Nat} {W W' : World} {v : Value} {l : Prs} {ub : Nat} {n : Int}
set_option maxHeartbeats 3200000 in
set_option maxRecDepth 100000 in
theorem rturn_none (h : Rb B W ub v n []) (next : Int) (h1 : 1 ≤ next) (h2 : next ≤ 1073741825) :
    Calls Tryd.prog 14 #[.pointer (some ⟨ub, 0, none⟩), .int .i64 next] W fun e W' => e = .returned (.tuple #[.int .i64 n, .int .i64 0]) ∧ Rb B W' ub v next [] ∧ St (fun k => k = ub) W W' := by
  have H := hid h
  obtain ⟨a, c, rfl⟩ := h.row.slice
  have c0 := h.c0
  have hd1 : decide (next < 1) = false := decide_eq_false (by omega)
  have hd2 : decide (1073741825 < next) = false := decide_eq_false (by omega)
  clear h h1 h2
  go_enter Tryd.func14, Tryd.ntmps14
  go_upto_region 1 with fail
  go_quiet (fail)
  have cc : ∀ k, (W.drewN k).cell? ⟨ub, 1, none⟩ = some (.int .i64 n) := fun k => (H.out.later (drewN_below W k)).c1
  have fz : ∀ k, (W.drewN k).frozen? ⟨ub, 1, none⟩ = false := fun k => blk_free (H.out.later (drewN_below W k)).box 1
  have G : Hid (∀ k, Rb B ((W.drewN k).setCell ⟨ub, 1, none⟩ (.int .i64 next)) ub (.slice a ([] : Prs).length c) next [] ∧ St (fun k => k = ub) W ((W.drewN k).setCell ⟨ub, 1, none⟩ (.int .i64 next))) := fun k => ⟨((H.out.later (drewN_below W k)).turn next).1, (St.of_below (drewN_below W k)).trans ((H.out.later (drewN_below W k)).turn next).2 fun x _ e => e⟩
  go_wp2_with fail
  exact bodyPost_ret (v := .tuple #[.int .i64 n, .int .i64 0]) (by simp [results, Tryd.results14, go_sem]) rfl ⟨rfl, (G.out _).1, (G.out _).2⟩
theorem infoIntB : (Tryd.prog.info? 3).map (fun i => (i.zero, i.size, i.bytes)) = some (some (.int .i64 0), 1, 8) := by kernel_rfl
/-- append of one number. -/
theorem wpList_numI {ops : Array Oper} {rest : List Oper} {o : Oper} {a : Act} {Q : Exit → Act → World → Prop} (hgd : o.guard = none) (s x : Operand)
    (ho : o.op = .call { callee := .builtin .append, args := #[s, x], argTypes := #[56, 56] }) {wc : World} {xs : List Int} {y : Int} (hown : wc.ownsRow B 3 1 v xs.length (xs.map Go.encZ)) (hl : xs.length ≤ 1000) (hB : B ≤ wc.heap.size)
    (hs : a.eval s = v) (hx : a.eval x = .slice (some ⟨wc.heap.size, 0, none⟩) 1 1)
    (h : ∀ v' w2, Hid (w2.ownsRow B 3 1 v' (xs ++ [y]).length ((xs ++ [y]).map Go.encZ)) → Hid (St (fun x => v.ownBlock = some x) wc w2) → wpList Tryd.prog ops Q rest (a.put o.dst v') w2) :
    wpList Tryd.prog ops Q (o :: rest) a (wc.alloc (.cells #[.int .i64 y] 3)) := by
  obtain ⟨i0, hi, hz0, hz1, hz2⟩ := info_parts infoIntB
  have hb := bAl wc (.cells #[.int .i64 y] 3)
  have ho2 : (wc.alloc (.cells #[.int .i64 y] 3)).ownsRow B 3 1 v xs.length (xs.map Go.encZ) := World.ownsRow.alloc hown _
  have hh := heap_alloc_new wc (.cells #[.int .i64 y] 3)
  refine wpList_append_lies _ hgd s x 56 ho B 3 i0 (.int .i64 0) 1 8 Tryd.underlying56 hi hz0 hz1 hz2 rfl (by decide) v xs.length (xs.map Go.encZ) hs ho2 ⟨wc.heap.size, 0, none⟩ 1 1 [.int .i64 y] hx rfl (fun j u hu => by
    rw [add_at]
    exact cell_blk hh (by simpa using hu)) (by intro u hu; simp at hu; subst hu; rfl) (by decide) (by unfold maxLen; omega) (by omega) (by simp; omega) (wc.heap.size + 1) (by simp) ?_
  intro g' cap w2 ow hg hat hlt
  refine h _ w2 ?_ ((St.of_below hb).trans (St.of_grown (S := fun x => v.ownBlock = some x) hg fun k e => e) fun _ _ q => q)
  show World.ownsRow _ _ _ _ _ _ _
  rw [List.map_append, List.length_append]
  exact ow
theorem ints_none (W : World) : (W.alloc (.cells #[] 3)).ownsRow W.heap.size 3 1 (.slice (some ⟨W.heap.size, 0, none⟩) 0 0) 0 (([] : List Int).map Go.encZ) :=
  World.ownsRow_lit (base := W.heap.size) (e := 3) (size := 1) W #[] 0 (Nat.le_refl _) (Nat.zero_le _) rfl
theorem bel_num {A wr w2 : World} {v : Value} {m : Nat} {q : List Value} (hb : Below A.heap.size A wr) (hp : wr.ownsRow A.heap.size 3 1 v m q) (hs : St (fun x => v.ownBlock = some x) wr w2) : Below A.heap.size A w2 :=
  hb.trans (hs.below (fun x hx => (World.ownsRow.lt hp x hx).1) hb.size)
set_option maxHeartbeats 3200000 in
set_option maxRecDepth 100000 in
theorem rlist_any (h : Rb B W ub v n l) (hl : l.length ≤ 900) :
    Calls Tryd.prog 24 #[.pointer (some ⟨ub, 0, none⟩)] W fun e W' => ∃ r, e = .returned r ∧ IRow W' r (l.map fun x => x.1) ∧ Below W.heap.size W W' := by
  obtain ⟨w2, hw2⟩ : ∃ w2, w2 = W.alloc (.cells #[] 3) := ⟨_, rfl⟩
  have b2 : Below W.heap.size W w2 := by rw [hw2]; exact bAl _ _
  have I2 : Hid (w2.ownsRow W.heap.size 3 1 (.slice (some ⟨W.heap.size, 0, none⟩) 0 0) 0 (([] : List Int).map Go.encZ)) := by rw [hw2]; exact ints_none W
  have H := hid h
  obtain ⟨a, c, rfl⟩ := h.row.slice
  have hli : (l.length : Int) ≤ 900 := by omega
  have HW2 := hid hw2
  have B2 := hid b2
  clear h hw2 b2
  go_enter Tryd.func24, Tryd.ntmps24
  go_upto_region 2 with fail
  rw [← HW2.out]
  go_wp2_with fail
  go_loopg [3, 4] l.length (fun gh o ix wr => ∃ (k : Nat) (q : List Int), k ≤ l.length ∧ gh = l.length - k ∧ ix = .int .i64 (k : Int) ∧ Hid (q = (l.take k).map fun x => x.1) ∧ Hid (wr.ownsRow W.heap.size 3 1 o q.length (q.map Go.encZ)) ∧ Hid (Below W.heap.size W wr))
  case atStart => exact ⟨0, [], Nat.zero_le _, rfl, rfl, by show _ = _; simp, I2.out, B2.out⟩
  case round =>
    clear I2
    rename World => wr
    obtain ⟨k, q, hk, rfl, rfl, HS, HP, HB⟩ := hrel
    have hul : q.length ≤ 1000 := by rw [HS.out]; simp; omega
    have hw1 : W.heap.size ≤ wr.heap.size := HB.out.size
    have HR := hid (H.out.later HB.out)
    have c0 := HR.out.c0
    obtain ⟨oa, oc, rfl⟩ := own_slice HP.out
    by_cases hlt : k < l.length
    · have hki : (k : Int) < (l.length : Int) := by omega
      obtain ⟨x, hx⟩ := at_lt l k hlt
      obtain ⟨b, rfl, thr⟩ := HR.out.row.at hx
      have E : Hid (q ++ [x.1] = (l.take (k + 1)).map fun x => x.1) := by show _ = _; rw [take_next hx, List.map_append, HS.out]; rfl
      have d0 := thr.c0
      clear hx thr
      go_wp2_with (at_builtin; refine wpList_numI (y := x.1) rfl _ _ rfl HP.out hul (by exact hw1) rfl rfl ?_; intro v' w2 ho hst)
      have B3 := hid (bel_num HB.out HP.out hst.out)
      go_roundg (l.length - (k + 1))
      case measure => omega
      case rel => exact ⟨k + 1, q ++ [x.1], by omega, rfl, by go_num, E.out, ho.out, B3.out⟩
    · have hki : ¬ ((k : Int) < (l.length : Int)) := by omega
      have E : Hid (q = l.map fun x => x.1) := by
        have := HS.out
        rw [List.take_of_length_le (by omega)] at this
        exact this
      go_wp2_with fail
      go_ret
      exact ⟨_, rfl, by rw [← E.out]; exact irow_of HP.out, HB.out⟩
end
end Go.Proofs.YtiebbedpjogjfaaDoor.Bd
