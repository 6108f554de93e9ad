/- The document's Check: numbers as text; ways as bytes; the row of flaws. -/
import Derived.Test.YtkhhiddemihnbaaDoorCwRb
import Derived.Test.YtkhhiddemihnbaaDoorCwCg
import Derived.Test.YtkhhiddemihnbaaDoorKj
import Derived.Maps.AppendAt
import Derived.Deep.Onto
namespace Go.Proofs.YtkhhiddemihnbaaDoor.Cw
open Go.RowKit Go.Shelf
theorem cell_pair (w : World) (a b : Value) (e : TypeId) : (w.alloc (.cells #[a, b] e)).cell? ⟨w.heap.size, 0, none⟩ = some a ∧ (w.alloc (.cells #[a, b] e)).cell? ⟨w.heap.size, 1, none⟩ = some b := ⟨cell_blk (heap_alloc_new w _) rfl, cell_blk (heap_alloc_new w _) rfl⟩
def tens : ByteArray := ⟨#[48, 49, 50, 51, 52, 53, 54, 55, 56, 57]⟩
theorem tens_list : ∀ j : Fin 10, (tens.data.toList.drop j.val).take (j.val + 1 - j.val) = [UInt8.ofNat (48 + j.val)] := by decide +kernel
theorem tens_at (i : Nat) (h : i < 10) : tens.extract i (i + 1) = dig i := by
  unfold dig
  rw [AnyPlain.small_ba (tens.extract i (i + 1)) (Lib.decDigits i) (by rw [Lib.extract_data, Lib.decDigits_one h]; exact tens_list ⟨i, h⟩)]
theorem dig_two (a b : Nat) (ha : 1 ≤ a) (ha9 : a < 10) (hb : b < 10) : dig a ++ dig b = dig (10 * a + b) := by
  unfold dig
  rw [Lib.decDigits_one ha9, Lib.decDigits_one hb, Lib.decDigits_two (i := 10 * a + b) (by omega) (by omega), show (10 * a + b) / 10 = a by omega, show (10 * a + b) % 10 = b by omega]
  apply ByteArray.ext
  simp
theorem dig_size (i : Nat) (h : i < 100) : (dig i).size ≤ 2 := by
  unfold dig
  by_cases h1 : i < 10
  · rw [Lib.decDigits_one h1]; show 1 ≤ 2; decide
  · rw [Lib.decDigits_two h1 h]; show 2 ≤ 2; decide
theorem tens_cut (i : Nat) (h : i < 10) (w : World) : (Instr.slice 9 (.string ⟨#[48, 49, 50, 51, 52, 53, 54, 55, 56, 57]⟩) (some (.int .i64 (i : Int))) (some (.int .i64 ((i : Int) + 1))) none).run Tryd.prog w = .ok (.string (dig i)) w := by
  have hs : (⟨#[48, 49, 50, 51, 52, 53, 54, 55, 56, 57]⟩ : ByteArray).size = 10 := rfl
  rw [run_slice_string w 9 _ .i64 .i64 _ _ Tryd.underlying9 (by omega) (by omega) (by rw [hs]; omega), show ((i : Int)).toNat = i by omega, show ((i : Int) + 1).toNat = i + 1 by omega]
  exact congrArg (fun s => Result.ok (Value.string s) w) (tens_at i h)
set_option maxHeartbeats 800000 in
theorem digits_one (i : Nat) (h : i < 10) (w : World) : Calls Tryd.prog 33 #[.int .i64 (i : Int)] w fun e w' => e = .returned (.string (dig i)) ∧ w' = w := by
  have hsl := tens_cut i h
  have hi : (i : Int) < 10 := by omega
  go_enter Tryd.func33, Tryd.ntmps33
  go_wp2_with fail
  go_ret
  exact ⟨rfl, rfl⟩
set_option maxHeartbeats 800000 in
set_option maxRecDepth 100000 in
theorem digits_two (i a b : Nat) (hi : i = 10 * a + b) (ha : 1 ≤ a) (ha9 : a < 10) (hb : b < 10) (w : World) : Calls Tryd.prog 33 #[.int .i64 (i : Int)] w fun e w' => e = .returned (.string (dig i)) ∧ Below w.heap.size w w' := by
  have hsl := tens_cut b hb
  have hn : ¬ ((i : Int) < 10) := by omega
  have h100 : (i : Int) < 100 := by omega
  have hq : (i : Int).tdiv 10 = (a : Int) := by
    rw [Int.tdiv_eq_ediv_of_nonneg (by omega)]; omega
  have hr : (i : Int).tmod 10 = (b : Int) := by
    rw [Int.tmod_eq_emod_of_nonneg (by omega)]; omega
  have hai : (a : Int) < 10 := by omega
  have hbi : (b : Int) < 10 := by omega
  have hb1 : IntKind.i64.wrap ((b : Int) + 1) = (b : Int) + 1 := IntWalk.i64_in _ (by omega)
  have ha1 : IntKind.i64.wrap (a : Int) = (a : Int) := IntWalk.i64_in _ (by omega)
  have hb0 : IntKind.i64.wrap (b : Int) = (b : Int) := IntWalk.i64_in _ (by omega)
  have DC := hid (digits_one a ha9)
  have sa : (dig a).size ≤ 2 := dig_size a (by omega)
  have sb : (dig b).size ≤ 2 := dig_size b (by omega)
  have sai : ((dig a).size : Int) ≤ 2 := by omega
  have sbi : ((dig b).size : Int) ≤ 2 := by omega
  have R : Hid (dig a ++ dig b = dig i) := by show _ = _; rw [hi]; exact dig_two a b ha ha9 hb
  have hadd : ∀ W : World, (Op.stringOp .add (dig a) (dig b)).run Tryd.prog W = .ok (.string (dig a ++ dig b)) W := fun W => run_string_add_sum W _ _ (by omega)
  have hmx : ¬ (9223372036854775807 < (dig a).size + (dig b).size) := by omega
  have BD : Hid (Below w.heap.size w w.drew) := (Below.refl _ _).drew
  clear hi ha ha9 hb
  go_enter Tryd.func33, Tryd.ntmps33
  go_wp2_with fail
  go_region_held3 (fun W' => True) (trivial) (first | (go_at_call 33; refine (DC.out _).mono ?_; rintro e w1 ⟨rfl, rfl⟩))
  go_wp2_with fail
  go_ret
  exact ⟨by rw [← R.out]; rfl, BD.out⟩
theorem digits_any (i : Nat) (h : i < 100) (w : World) : Calls Tryd.prog 33 #[.int .i64 (i : Int)] w fun e w' => e = .returned (.string (dig i)) ∧ Below w.heap.size w w' := by
  by_cases h1 : i < 10
  · exact (digits_one i h1 w).mono fun e w' ⟨h2, h3⟩ => ⟨h2, h3 ▸ Below.refl _ _⟩
  · exact digits_two i (i / 10) (i % 10) (by omega) (by omega) (by omega) (by omega) w
theorem joinB_one (s : ByteArray) : joinB [s] = s := by
  unfold joinB
  rw [List.map_cons, List.map_nil, Lib.join_one]
theorem joinB_more (s : ByteArray) (p : List ByteArray) (hp : p ≠ []) : joinB (s :: p) = s ++ (⟨#[47]⟩ ++ joinB p) := by
  cases p with
  | nil => exact absurd rfl hp
  | cons a q =>
    have h1 : Lib.join ((s :: a :: q).map (·.data.toList)) [47] = s.data.toList ++ ([47] ++ Lib.join ((a :: q).map (·.data.toList)) [47]) := by
      simp [Lib.join, List.intercalate]
    unfold joinB
    rw [h1]
    apply ByteArray.ext
    simp
theorem add_eq (a b c : ByteArray) (ha : a.size ≤ 1000) (hb : b.size ≤ 1000) (hc : a ++ b = c) (W : World) : (Op.stringOp .add a b).run Tryd.prog W = .ok (.string c) W := by
  subst hc
  exact run_string_add_sum W _ _ (by omega)
theorem Tryd.infoFl : (Tryd.prog.info? 50).map (fun i => (i.zero, i.size, i.bytes)) = some (some (.agg #[.string ⟨#[]⟩, .int .i64 0]), 2, 24) := by kernel_rfl
theorem leafCells_snoc (ls : Leaves) (p : List ByteArray × Nat) : leafCells (ls ++ [p]) = leafCells ls ++ [.string (joinB p.1), .int .i64 (p.2 : Int)] := by simp [leafCells]
/-- How the row of flaws stands. -/
structure FL (w0 : World) (o : Value) (ls : Leaves) (wr : World) : Prop where
  own : wr.ownsRow w0.heap.size 50 2 o ls.length (leafCells ls)
  bel : Below w0.heap.size w0 wr
  len : ls.length ≤ 1000
variable {w0 wr w1 : World} {o o' : Value} {ls ls' : Leaves} {g : Nat}
theorem FL.later (h : FL w0 o ls wr) (hb : Below wr.heap.size wr w1) : FL w0 o ls w1 := ⟨Sc.own_more h.own hb, h.bel.trans (hb.mono h.bel.size), h.len⟩
/-- What an append leaves. -/
def Lft (w w' : World) (v v' : Value) : Prop := (∀ g, g < w.heap.size → v.ownBlock ≠ some g → w'.heap[g]? = w.heap[g]?) ∧ (v'.ownBlock = v.ownBlock ∨ v'.ownBlock = some (w.heap.size + 1))
theorem wpList_flaw (w0 w : World) {ops : Array Oper} {rest : List Oper} {o : Oper} {a : Act} {Q : Exit → Act → World → Prop} (hgd : o.guard = none) (s x : Operand)
    (ho : o.op = .call { callee := .builtin .append, args := #[s, x], argTypes := #[46, 46] })
    (v : Value) (ls : Leaves) (hs : a.eval s = v) (F : FL w0 v ls w) (p : List ByteArray) (k : Nat) (P : ByteArray) (hP : P = joinB p)
    (hx : a.eval x = .slice (some ⟨w.heap.size, 0, none⟩) 1 1) (hlen : ls.length + 1 ≤ 1000)
    (h : ∀ v' w', Hid (FL w0 v' (ls ++ [(p, k)]) w') → Hid (Lft w w' v v') → wpList Tryd.prog ops Q rest (a.put o.dst v') w') :
    wpList Tryd.prog ops Q (o :: rest) a (w.alloc (.cells #[.string P, .int .i64 (k : Int)] 50)) := by
  subst hP
  obtain ⟨i0, hi, hz0, hz1, hz2⟩ := info_parts Tryd.infoFl
  obtain ⟨c0, c1⟩ := cell_pair w (.string (joinB p)) (.int .i64 (k : Int)) 50
  have hown := F.own.alloc (.cells #[.string (joinB p), .int .i64 (k : Int)] 50)
  have hbase : w0.heap.size ≤ (w.alloc (.cells #[.string (joinB p), .int .i64 (k : Int)] 50)).heap.size := Nat.le_trans F.bel.size (by simp)
  refine wpList_append_own_at _ hgd s x 46 ho w0.heap.size 50 i0 (.agg #[.string ⟨#[]⟩, .int .i64 0]) 2 24 Tryd.underlying46 hi hz0 hz1 hz2 rfl (by decide) v ls.length (leafCells ls) hs hown ⟨w.heap.size, 0, none⟩ 1 1 [.string (joinB p), .int .i64 (k : Int)] hx rfl (fun j u hu => ?_) (by intro u hu; simp at hu; rcases hu with rfl | rfl <;> rfl) (by simp [maxLen]; omega) (by omega) hbase ?_
  · rw [add_at]
    match j, hu with
    | 0, hu => simp at hu; subst hu; exact c0
    | 1, hu => simp at hu; subst hu; exact c1
    | j + 2, hu => simp at hu
  · intro v' w' hown' hgrow _ hat
    refine h v' w' ⟨?_, ?_, by rw [List.length_append]; exact hlen⟩ ⟨fun g hg hne => ?_, ?_⟩
    · rw [leafCells_snoc, List.length_append]
      exact hown'
    · exact (F.bel.alloc F.bel.size _).grown hgrow (Nat.le_trans F.bel.size (by simp)) (fun k hk => own_block hown hk)
    · rw [hgrow.block g (by simp; omega) (fun e => hne e.symm)]
      exact Array.getElem?_push_lt hg |>.trans (Array.getElem?_eq_getElem hg).symm
    · rcases hat with h1 | h1
      · exact .inl h1
      · right; rw [h1]; simp
theorem path_c (d p : ByteArray) : (⟨#[99, 111, 100, 101, 47]⟩ : ByteArray) ++ d ++ ⟨#[47]⟩ ++ p = joinB [wC, d, p] := by
  rw [joinB_more _ _ (by simp), joinB_more _ _ (by simp), joinB_one]
  apply ByteArray.ext
  simp [wC]
theorem FL.grown (h : FL w0 o ls wr) (e : ls = ls') : FL w0 o ls' wr := e ▸ h
/-- Besides: an instruction and its row of the table, each in a block of its own. -/
structure FB (w0 : World) (g7 g9 : Nat) (x : Ins) (o : Value) (ls : Leaves) (wr : World) : Prop where
  fl : FL w0 o ls wr
  i0 : wr.cell? ⟨g7, 0, none⟩ = some (.int .i64 x.1)
  i1 : wr.cell? ⟨g7, 1, none⟩ = some (.int .i64 x.2.1)
  i2 : wr.cell? ⟨g7, 2, none⟩ = some (.int .i64 x.2.2)
  r1 : wr.cell? ⟨g9, 1, none⟩ = some (.int .i64 (args x.1))
  n7 : o.ownBlock ≠ some g7
  n9 : o.ownBlock ≠ some g9
theorem FB.later {g7 g9 : Nat} {x : Ins} (h : FB w0 g7 g9 x o ls wr) (hb : Below wr.heap.size wr w1) : FB w0 g7 g9 x o ls w1 :=
  have S := fun {p : Addr} {u : Value} (h : wr.cell? p = some u) => seen hb (Nat.le_refl _) h
  ⟨h.fl.later hb, S h.i0, S h.i1, S h.i2, S h.r1, h.n7, h.n9⟩
theorem FB.app {g7 g9 : Nat} {x : Ins} (h : FB w0 g7 g9 x o ls wr) (F : FL w0 o' ls' w1) (K : Lft wr w1 o o') : FB w0 g7 g9 x o' ls' w1 := by
  have h7 := World.block_lt_of_cell? wr _ h.i0
  have h9 := World.block_lt_of_cell? wr _ h.r1
  have b7 := K.1 g7 h7 h.n7
  have b9 := K.1 g9 h9 h.n9
  have S7 := fun {j : Nat} {u : Value} (h : wr.cell? ⟨g7, j, none⟩ = some u) => (World.cell?_of_block (a := ⟨g7, j, none⟩) b7).trans h
  refine ⟨F, S7 h.i0, S7 h.i1, S7 h.i2, (World.cell?_of_block (a := ⟨g9, 1, none⟩) b9).trans h.r1, ?_, ?_⟩
  · rcases K.2 with e | e
    · rw [e]; exact h.n7
    · rw [e]; intro e2; have h7' : g7 < wr.heap.size := h7; simp at e2; omega
  · rcases K.2 with e | e
    · rw [e]; exact h.n9
    · rw [e]; intro e2; have h9' : g9 < wr.heap.size := h9; simp at e2; omega
end Go.Proofs.YtkhhiddemihnbaaDoor.Cw
