/- A part against itself; Since; two rows of numbers that are the same; a part of the statements. -/
import Derived.Test.YtpglanlpnapddaaDoorCi
import Derived.Laws.StructEq
namespace Go.Proofs.YtpglanlpnapddaaDoor
open Go.RowKit Go.Shelf Go.Maps
theorem eqA (n : Nat) (h : ∀ (x : Int) (w : World), (Op.equalIn n 3 (.int .i64 x) (.int .i64 x)).run Tryd.prog w = .ok true w) (w : World) (a b c e : Int) : (Op.equalIn (n + 1) 32 (.agg #[.int .i64 a, .int .i64 b, .int .i64 c, .int .i64 e]) (.agg #[.int .i64 a, .int .i64 b, .int .i64 c, .int .i64 e])).run Tryd.prog w = .ok true w := by
  have u32 := Tryd.underlying32
  have a3 := Tryd.isAgg3
  have z3 := Tryd.sizeOf3
  simp only [Op.equalIn, Sem.run_bind, run_underlying u32, Result.andThen_ok, z3]
  simp [Std.Legacy.Range.forIn_eq_forIn_range', Std.Legacy.Range.size, List.range', part, a3, z3, h, go_sem]
theorem eqI (d : Nat) (x : Int) (w : World) : (Op.equalIn (d + 1) 3 (.int .i64 x) (.int .i64 x)).run Tryd.prog w = .ok true w := by
  rw [run_equalIn_int w d 3 .i64 .i64 x x Tryd.underlying3]
  simp
theorem eqPart (x a b c e t : Int) (w : World) : (Op.equalIn 10000 34 (.agg #[.int .i64 x, .int .i64 a, .int .i64 b, .int .i64 c, .int .i64 e, .int .i64 t]) (.agg #[.int .i64 x, .int .i64 a, .int .i64 b, .int .i64 c, .int .i64 e, .int .i64 t])).run Tryd.prog w = .ok true w := by
  have hS : Tryd.prog.underlying 34 = some (.struct (Tryd.prog.fieldsOf 34)) := by kernel_rfl
  have hp : Tryd.prog.stoodInHeld 34 = false := by kernel_rfl
  have h := run_equalIn_agg (P := Tryd.prog) w 9999 34 #[.int .i64 x, .int .i64 a, .int .i64 b, .int .i64 c, .int .i64 e, .int .i64 t] #[.int .i64 x, .int .i64 a, .int .i64 b, .int .i64 c, .int .i64 e, .int .i64 t] hS hp
  have u3 := Tryd.underlying3
  have a3 := Tryd.isAgg3
  have z3 := Tryd.sizeOf3
  have u32 := Tryd.underlying32
  have a32 := Tryd.isAgg32
  have z32 := Tryd.sizeOf32
  have hA : ∀ w, (Op.equalIn 9999 32 (.agg #[.int .i64 a, .int .i64 b, .int .i64 c, .int .i64 e]) (.agg #[.int .i64 a, .int .i64 b, .int .i64 c, .int .i64 e])).run Tryd.prog w = .ok true w := fun w => eqA 9998 (eqI 9997) w a b c e
  simp only [Program.fieldsOf, Tryd.underlying34] at h
  rw [show (10000 : Nat) = 9999 + 1 from rfl, h]
  clear h hS hp
  go_simp
theorem neqP (x a b c e t : Int) (w : World) : (binOp .neq 34 (.agg #[.int .i64 x, .int .i64 a, .int .i64 b, .int .i64 c, .int .i64 e, .int .i64 t]) (.agg #[.int .i64 x, .int .i64 a, .int .i64 b, .int .i64 c, .int .i64 e, .int .i64 t])).run Tryd.prog w = .ok (.bool false) w := by
  simp only [binOp]
  simp [Op.equal, Op.maxDepth, eqPart]
theorem eqlP (x a b c e t : Int) (w : World) : (binOp .eql 34 (.agg #[.int .i64 x, .int .i64 a, .int .i64 b, .int .i64 c, .int .i64 e, .int .i64 t]) (.agg #[.int .i64 x, .int .i64 a, .int .i64 b, .int .i64 c, .int .i64 e, .int .i64 t])).run Tryd.prog w = .ok (.bool true) w := by
  simp only [binOp]
  simp [Op.equal, Op.maxDepth, eqPart]
set_option maxHeartbeats 800000 in
set_option maxRecDepth 100000 in
theorem row_law (n : Int) (W : World) : Calls Tryd.prog 26 #[.int .i64 n] W fun e W' => e = .returned (.agg #[.int .i64 3, .int .i64 n, .int .i64 0, .int .i64 0, .int .i64 0, .int .i64 n]) ∧ Below W.heap.size W W' := by
  go_enter Tryd.func26, Tryd.ntmps26
  go_wp2
  refine bodyPost_ret (v := .agg #[.int .i64 3, .int .i64 n, .int .i64 0, .int .i64 0, .int .i64 0, .int .i64 n]) (by simp [results, Tryd.results26, go_sem]) rfl ⟨rfl, bAl _ _⟩
def gI (n : Nat) : Value := .int .i64 (n : Int)
/-- A row of numbers. -/
def Ints (B : Nat) (W : World) (v : Value) (l : List Nat) : Prop := W.ownsRow B 3 1 v l.length (l.map gI)
theorem Ints.later {B : Nat} {W W' : World} {v : Value} {l : List Nat} (h : Ints B W v l) (hb : Below W.heap.size W W') : Ints B W' v l := own_later h fun _ _ _ hb' => blk_seen hb (Nat.le_refl _) hb'
theorem Ints.slice {B : Nat} {W : World} {v : Value} {l : List Nat} (h : Ints B W v l) : ∃ a c, v = .slice a l.length c := own_slice h
theorem Ints.some {B : Nat} {W : World} {a : Option Addr} {c : Nat} {l : List Nat} (h : Ints B W (.slice a l.length c) l) (h0 : 0 < l.length) : ∃ g, a = Option.some ⟨g, 0, none⟩ ∧ B ≤ g ∧ g < W.heap.size := own_some h h0
theorem Ints.cell {B : Nat} {W : World} {g c : Nat} {l : List Nat} (h : Ints B W (.slice (Option.some ⟨g, 0, none⟩) l.length c) l) {j k : Nat} (hj : l[j]? = Option.some k) : W.cell? ⟨g, j, none⟩ = Option.some (.int .i64 (k : Int)) := by
  have hlt := (List.getElem?_eq_some_iff.1 hj).1
  rw [World.ownsRow.cellAt h j (by omega), List.getElem?_map, hj]
  rfl
/-- append of one number. -/
theorem wpList_num {ops : Array Oper} {rest : List Oper} {o : Oper} {a : Act} {Q : Exit → Act → World → Prop} (hgd : o.guard = none) (s x : Operand)
    (ho : o.op = .call { callee := .builtin .append, args := #[s, x], argTypes := #[55, 55] }) {B : Nat} {wc : World} {v : Value} {l : List Nat} {k : Nat} (hown : Ints B wc v l) (hl : l.length ≤ 1000) (hB : B ≤ wc.heap.size)
    (hs : a.eval s = v) (hx : a.eval x = .slice (some ⟨wc.heap.size, 0, none⟩) 1 1)
    (h : ∀ v' w2, Hid (Ints B w2 v' (l ++ [k])) → Hid (St (fun x => v.ownBlock = some x) wc w2) → wpList Tryd.prog ops Q rest (a.put o.dst v') w2) :
    wpList Tryd.prog ops Q (o :: rest) a (wc.alloc (.cells #[.int .i64 (k : Int)] 3)) := by
  obtain ⟨i0, hi, hz0, hz1, hz2⟩ := info_parts infoInt3
  have hb : Below wc.heap.size wc (wc.alloc (.cells #[.int .i64 (k : Int)] 3)) := bAl _ _
  have ho2 : (wc.alloc (.cells #[.int .i64 (k : Int)] 3)).ownsRow B 3 1 v l.length (l.map gI) := World.ownsRow.alloc hown _
  refine wpList_append_lies _ hgd s x 55 ho B 3 i0 (.int .i64 0) 1 8 Tryd.underlying55 hi hz0 hz1 hz2 rfl (by decide) v l.length (l.map gI) hs ho2 ⟨wc.heap.size, 0, none⟩ 1 1 [gI k] hx rfl (fun j u hu => by
    rw [add_at]
    match j, hu with
    | 0, hu => simp at hu; subst hu; exact new_cell wc _ 3
    | j + 1, hu => simp at hu) (by intro u hu; simp at hu; subst hu; rfl) (by decide) (by unfold maxLen; omega) (by omega) (by simp; omega) (wc.heap.size + 1) (by simp) ?_
  intro g' cap w2 ow hg hat hlt
  refine h _ w2 ?_ ((St.of_below hb).trans (St.of_grown (S := fun x => v.ownBlock = some x) hg fun k e => e) fun _ _ q => q)
  show World.ownsRow _ _ _ _ _ _ _
  have e : (l ++ [k]).length = l.length + 1 := by simp
  rw [e, List.map_append]
  exact ow
/-- The rows that were changed in a frame or behind it, among the first k. -/
def since (l : List Pt) (f : Int) : Nat → List Nat
  | 0 => []
  | k + 1 => if f ≤ tickAt l (k : Int) then since l f k ++ [k] else since l f k
theorem since_len (l : List Pt) (f : Int) (k : Nat) : (since l f k).length ≤ k := by
  induction k with
  | zero => simp [since]
  | succ k ih =>
    unfold since
    split
    · simp; omega
    · omega
set_option maxHeartbeats 1600000 in
set_option maxRecDepth 100000 in
theorem since_any {B : Nat} {W : World} {rb mb : Nat} {sv : Value} {s : CS} (h : Cl B W rb mb sv s) (f : Int) :
    Calls Tryd.prog 22 #[.pointer (some ⟨rb, 0, none⟩), .int .i64 f] W fun e W' => ∃ v, e = .returned v ∧ Ints W.heap.size W' v (since s.rows f s.rows.length) ∧ Below W.heap.size W W' := by
  have H := hid h
  have LN := hid (len_any h)
  have hsm := h.small
  have hsi : (s.rows.length : Int) ≤ 1000 := by omega
  clear h
  go_enter Tryd.func22, Tryd.ntmps22
  go_wp2_with fail
  refine LN.out.mono ?_
  rintro e w1 ⟨rfl, rfl⟩
  clear LN
  go_wp2_with fail
  go_loopw [5, 6, 9] (fun lv _ i wr => ∃ k : Nat, k ≤ s.rows.length ∧ i = .int .i64 (k : Int) ∧ Hid (Ints w1.heap.size wr lv (since s.rows f k)) ∧ Hid (Below w1.heap.size w1 wr)) (fun _ _ i _ => s.rows.length - (intOf i).toNat)
  case atStart => exact ⟨0, Nat.zero_le _, rfl, World.ownsRow_nil _ _ _ _, Below.refl _ _⟩
  case round =>
    obtain ⟨k, hk, rfl, HL, HB⟩ := hrel
    by_cases hlt : k < s.rows.length
    · have hki : (k : Int) < (s.rows.length : Int) := by omega
      have R1 := hid (H.out.later HB.out)
      have c3 := R1.out.c3
      obtain ⟨D, hD, hH⟩ := R1.out.map
      have LK := look_one hD hH (k : Int) (I64_mid (by omega) (by omega))
      clear hD hH
      have e2 := hid (show since s.rows f (k + 1) = if f ≤ tickAt s.rows (k : Int) then since s.rows f k ++ [k] else since s.rows f k from rfl)
      generalize tickAt s.rows (k : Int) = tk at *
      by_cases hge : f ≤ tk
      · rw [if_pos hge] at e2
        have hul : (since s.rows f k).length ≤ 1000 := by have := since_len s.rows f k; omega
        have hw1 : w1.heap.size ≤ wr.heap.size := HB.out.size
        have hrl : rb < wr.heap.size := World.block_lt_of_cell? wr _ c3
        obtain ⟨la, lc, rfl⟩ := Ints.slice HL.out
        go_wp2_with (at_builtin; refine wpList_num rfl _ _ rfl HL.out hul hw1 rfl rfl ?_; intro v' w2 ho hst)
        have b2 : Hid (Below w1.heap.size w1 w2) := HB.out.trans (hst.out.below (fun x hx => (World.ownsRow.lt HL.out x hx).1) hw1)
        exact ⟨⟨k + 1, by omega, by go_num, by rw [e2.out]; exact ho.out, b2.out⟩, by simp [intOf]; omega⟩
      · rw [if_neg hge] at e2
        go_wp2_with fail
        go_roundw
        case rel => exact ⟨k + 1, by omega, by go_num, by rw [e2.out]; exact HL.out, HB.out⟩
        case measure => simp [intOf]; omega
    · have hki : ¬ ((k : Int) < (s.rows.length : Int)) := by omega
      have e1 : Hid (k = s.rows.length) := by show k = _; omega
      go_wp2_with fail
      go_ret
      exact ⟨_, rfl, by rw [← e1.out]; exact HL.out, HB.out⟩
set_option maxHeartbeats 400000 in
theorem since_nil (f : Int) (W : World) : Calls Tryd.prog 22 #[.pointer none, .int .i64 f] W fun e W' => e = .returned (.slice none 0 0) ∧ W' = W := by
  have LN := hid (len_nil W)
  go_enter Tryd.func22, Tryd.ntmps22
  go_wp2_with fail
  refine LN.out.mono ?_
  rintro e w1 ⟨rfl, rfl⟩
  clear LN
  go_wp2_with fail
  go_loop [5, 9] (fun l i => l = .slice none 0 0 ∧ i = .int .i64 0) (fun _ _ => 0)
  case atStart => exact ⟨rfl, rfl⟩
  case round =>
    obtain ⟨rfl, rfl⟩ := hrel
    go_wp2_with fail
    go_ret
    exact ⟨rfl, rfl⟩
set_option maxHeartbeats 1600000 in
set_option maxRecDepth 100000 in
theorem same_any {B B' : Nat} {W : World} {v u : Value} {l : List Nat} (h : Ints B W v l) (h' : Ints B' W u l) (hl : l.length ≤ 1000) :
    Calls Tryd.prog 21 #[v, u] W fun e W' => e = .returned (.bool true) ∧ Below W.heap.size W W' := by
  obtain ⟨va, vc, rfl⟩ := h.slice
  obtain ⟨ua, uc, rfl⟩ := h'.slice
  have H := hid h
  have H' := hid h'
  have hli : (l.length : Int) ≤ 1000 := by omega
  clear h h'
  go_enter Tryd.func21, Tryd.ntmps21
  go_wp2_with fail
  go_loopw [5] (fun i wr => ∃ k : Nat, k ≤ l.length ∧ i = .int .i64 (k : Int) ∧ Hid (Below W.heap.size W wr)) (fun i _ => l.length - (intOf i).toNat)
  case atStart => exact ⟨0, Nat.zero_le _, rfl, Below.refl _ _⟩
  case round =>
    obtain ⟨k, hk, rfl, HB⟩ := hrel
    by_cases hlt : k < l.length
    · have hki : (k : Int) < (l.length : Int) := by omega
      obtain ⟨g, rfl, -, -⟩ := H.out.some (by omega)
      obtain ⟨g', rfl, -, -⟩ := H'.out.some (by omega)
      obtain ⟨p, hp⟩ := at_lt l k hlt
      have d0 := (H.out.later HB.out).cell hp
      have f0 := (H'.out.later HB.out).cell hp
      clear hp
      go_wp2_with fail
      go_quiet (fail)
      go_wp2_with fail
      exact ⟨⟨k + 1, by omega, by go_num, HB.out.trans ((drewN_below _ _).mono HB.out.size)⟩, by simp [intOf]; omega⟩
    · have hki : ¬ ((k : Int) < (l.length : Int)) := by omega
      go_wp2_with fail
      go_ret
      exact ⟨rfl, HB.out⟩
end Go.Proofs.YtpglanlpnapddaaDoor
