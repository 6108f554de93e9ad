/- A part of the proof. -/
import Derived.Test.YthadfdbkkmmgoaaGreatDoorMao
set_option maxHeartbeats 25600000
namespace Go.Proofs.YthadfdbkkmmgoaaGreatDoor
namespace Sc
open Go.RowKit Go.Shelf
def tens : ByteArray := ⟨#[48, 49, 50, 51, 52, 53, 54, 55, 56, 57]⟩
theorem z0h : ∀ j : Fin 10, (tens.data.toList.drop j.val).take (j.val + 1 - j.val) = [UInt8.ofNat (48 + j.val)] := by decide +kernel
theorem z6s (i : Nat) (h : i < 10) : tens.extract i (i + 1) = dig i := by
 unfold dig
 rw [AnyPlain.small_ba (tens.extract i (i + 1)) (Lib.decDigits i) (by rw [Lib.extract_data, Lib.decDigits_one h]; exact z0h ⟨i, h⟩)]
theorem z9b (a b : Nat) (ha : 1 <= a) (ha9 : a < 10) (hb : b < 10) : dig a ++ dig b = dig (10 * a + b) := by
 unfold dig
 rw [Lib.decDigits_one ha9, Lib.decDigits_one hb, Lib.decDigits_two (i := 10 * a + b) (by omega) (by omega), show (10 * a + b) / 10 = a by omega, show (10 * a + b) % 10 = b by omega]
 apply ByteArray.ext
 simp
theorem zii (i : Nat) (h : i < 100) : (dig i).size <= 2 := by
 unfold dig
 by_cases h1 : i < 10
 ·rw [Lib.decDigits_one h1]; show 1 <= 2; decide
 rw [Lib.decDigits_two h1 h]; show 2 <= 2; decide
theorem zsq (i : Nat) (h : i < 10) (w : World) : (Instr.slice 9 (.string ⟨#[48, 49, 50, 51, 52, 53, 54, 55, 56, 57]⟩) (some (.int .i64 (i : Int))) (some (.int .i64 ((i : Int) + 1))) none).run Tryz.prog w = .ok (.string (dig i)) w := by
 have hs : (⟨#[48, 49, 50, 51, 52, 53, 54, 55, 56, 57]⟩ : ByteArray).size = 10 := rfl
 rw [run_slice_string w 9 _ .i64 .i64 _ _ Tryz.underlying9 (by omega) (by omega) (by rw [hs]; omega), show ((i : Int)).toNat = i by omega, show ((i : Int) + 1).toNat = i + 1 by omega]
 exact congrArg (fun s => Result.ok (Value.string s) w) (z6s i h)
theorem zkw (i : Nat) (h : i < 10) (w : World) : Calls Tryz.prog 42 #[.int .i64 (i : Int)] w fun e w' => e = .returned (.string (dig i)) /\ w' = w := by
 have hsl := zsq i h
 have hi : (i : Int) < 10 := by omega
 go_enter Tryz.func42, Tryz.ntmps42
 go_wp2_with fail
 go_ret
 exact ⟨rfl, rfl⟩
set_option maxRecDepth 100000 in
theorem zup (i a b : Nat) (hi : i = 10 * a + b) (ha : 1 <= a) (ha9 : a < 10) (hb : b < 10) (w : World) : Calls Tryz.prog 42 #[.int .i64 (i : Int)] w fun e w' => e = .returned (.string (dig i)) /\ Below w.heap.size w w' := by
 have hsl := zsq b hb
 have hn : ¬ ((i : Int) < 10) := by omega
 have h100 : (i : Int) < 100 := by omega
 have hq : (i : Int).tdiv 10 = (a : Int) := by
  rw [Int.tdiv_eq_ediv_of_nonneg (by omega)]; omega
 have hr : (i : Int).tmod 10 = (b : Int) := by
  rw [Int.tmod_eq_emod_of_nonneg (by omega)]; omega
 have hai : (a : Int) < 10 := by omega
 have hbi : (b : Int) < 10 := by omega
 have hb1 : IntKind.i64.wrap ((b : Int) + 1) = (b : Int) + 1 := IntWalk.i64_in _ (by omega)
 have ha1 : IntKind.i64.wrap (a : Int) = (a : Int) := IntWalk.i64_in _ (by omega)
 have hb0 : IntKind.i64.wrap (b : Int) = (b : Int) := IntWalk.i64_in _ (by omega)
 have DC := hid (zkw a ha9)
 have sa : (dig a).size <= 2 := zii a (by omega)
 have sb : (dig b).size <= 2 := zii b (by omega)
 have sai : ((dig a).size : Int) <= 2 := by omega
 have sbi : ((dig b).size : Int) <= 2 := by omega
 have R : Hid (dig a ++ dig b = dig i) := by show _ = _; rw [hi]; exact z9b a b ha ha9 hb
 have hadd : ∀ W : World, (Op.stringOp .add (dig a) (dig b)).run Tryz.prog W = .ok (.string (dig a ++ dig b)) W := fun W => run_string_add_sum W _ _ (by omega)
 have hmx : ¬ (9223372036854775807 < (dig a).size + (dig b).size) := by omega
 have BD : Hid (Below w.heap.size w w.drew) := (Below.refl _ _).drew
 clear hi ha ha9 hb
 go_enter Tryz.func42, Tryz.ntmps42
 go_wp2_with fail
 go_region_held3 (fun W' => True) (trivial) (first | (go_at_call 42; refine (DC.out _).mono ?_; rintro e w1 ⟨rfl, rfl⟩))
 go_wp2_with fail
 go_ret
 exact ⟨by rw [<- R.out]; rfl, BD.out⟩
theorem zkk (i : Nat) (h : i < 100) (w : World) : Calls Tryz.prog 42 #[.int .i64 (i : Int)] w fun e w' => e = .returned (.string (dig i)) /\ Below w.heap.size w w' := by
 by_cases h1 : i < 10
 ·exact (zkw i h1 w).mono fun e w' ⟨h2, h3⟩ => ⟨h2, h3 ▸ Below.refl _ _⟩
 exact zup i (i / 10) (i % 10) (by omega) (by omega) (by omega) (by omega) w
theorem zwy {s : ByteArray} (hs : isNm s = true) (acc : List ByteArray) (x : ByteArray) : s ∈ zej acc x ↔ s ∈ acc \/ s = x := by
 unfold zej
 by_cases hm : memB acc x = true
 ·rw [hm]
  simp only [Bool.not_true, Bool.and_false, Bool.false_eq_true, if_false]
  constructor
  ·exact .inl
  rintro (h | rfl)
  ·exact h
  exact (zfj _ _).1 hm
 have hmf : memB acc x = false := by simpa using hm
 rw [hmf]
 by_cases hx : isNm x = true
 ·rw [hx]; simp
 have hxf : isNm x = false := by simpa using hx
 rw [hxf]
 simp only [Bool.false_and, Bool.false_eq_true, if_false]
 constructor
 ·exact .inl
 rintro (h | rfl)
 ·exact h
 rw [hs] at hxf; exact absurd hxf (by decide)
theorem zop {s : ByteArray} (hs : isNm s = true) : ∀ (l acc : List ByteArray), s ∈ l.foldl zej acc ↔ s ∈ acc \/ s ∈ l
 | [], acc => by simp
 | x :: l, acc => by
  rw [List.foldl_cons, zop hs l, zwy hs, List.mem_cons, or_assoc]
theorem zlb {s : ByteArray} (hs : isNm s = true) (l : List ByteArray) : s ∈ zar l ↔ s ∈ l := by
 unfold zar
 rw [zop hs]; simp
theorem zte {s : ByteArray} (acc : List ByteArray) (hs : isNm s = false) : nErr acc s = [10] := by simp [nErr, hs]
theorem zmf {s : ByteArray} {l : List ByteArray} (hs : isNm s = true) (hm : s ∈ l) : nErr (zar l) s = [9] := by
 have : memB (zar l) s = true := (zfj _ _).2 ((zlb hs l).2 hm)
 simp [nErr, hs, this]
theorem zlr {s : ByteArray} {l : List ByteArray} (hs : isNm s = true) (hm : ¬ s ∈ l) : nErr (zar l) s = [] := by
 have : memB (zar l) s = false := by
  cases h : memB (zar l) s with
  | false => rfl
  | true => exact absurd ((zlb hs l).1 ((zfj _ _).1 h)) hm
 simp [nErr, hs, this]
theorem znz (s : ByteArray) : ∀ (l : List ByteArray) (m : Nat), zav s l m = -1 \/ (m : Int) <= zav s l m
 | [], _ => .inl rfl
 | x :: l, m => by
  unfold zav
  split
  ·right; omega
  rcases znz s l (m + 1) with h | h
  ·exact .inl h
  right; omega
theorem zdr (s : ByteArray) : ∀ (l : List ByteArray) (m k : Nat), (0 <= zav s l m /\ zav s l m < ((m + k : Nat) : Int)) ↔ s ∈ l.take k
 | [], m, k => by simp [zav]
 | x :: l, m, 0 => by
  rcases znz s (x :: l) m with h | h
  ·rw [h]; simp
  simp only [Nat.add_zero, List.take_zero, List.not_mem_nil, iff_false]; omega
 | x :: l, m, k + 1 => by
  have ih := zdr s l (m + 1) k
  rw [List.take_succ_cons, List.mem_cons]
  unfold zav
  by_cases hx : eqS x s = true
  ·rw [if_pos hx]
   have := (zzi x s).1 hx
   simp only [this, true_or, iff_true]
   omega
  rw [if_neg hx]
  have hne : ¬ (s = x) := fun h => hx ((zzi x s).2 h.symm)
  rw [show m + (k + 1) = m + 1 + k by omega, ih]
  simp [hne]
theorem zkx (s : ByteArray) (l : List ByteArray) : 0 <= zav s l 0 ↔ s ∈ l := by
 constructor
 ·intro h
  exact List.mem_of_mem_take ((zdr s l 0 ((zav s l 0).toNat + 1)).1 ⟨h, by omega⟩)
 intro h
 exact ((zdr s l 0 l.length).2 (by rw [List.take_length]; exact h)).1
theorem z0t {i : Int} (h : i < 0) : zfz i = .tuple #[.int .i64 0, .bool false] := by unfold zfz; rw [if_pos h]
theorem zkr {i : Int} (h : ¬ i < 0) : zfz i = .tuple #[.int .i64 i, .bool true] := by unfold zfz; rw [if_neg h]
theorem zgq (s : ByteArray) : zef [s] = s := by
 unfold zef
 rw [List.map_cons, List.map_nil, Lib.join_one]
theorem zfe (s : ByteArray) (p : List ByteArray) (hp : p ≠ []) : zef (s :: p) = s ++ (⟨#[47]⟩ ++ zef p) := by
 cases p with
 | nil => exact absurd rfl hp
 | cons a q =>
  have h1 : Lib.join ((s :: a :: q).map (·.data.toList)) [47] = s.data.toList ++ ([47] ++ Lib.join ((a :: q).map (·.data.toList)) [47]) := by
   simp [Lib.join, List.intercalate]
  unfold zef
  rw [h1]
  apply ByteArray.ext
  simp
theorem yas (d p : ByteArray) : (⟨#[99, 111, 109, 112, 111, 110, 101, 110, 116, 115, 47]⟩ : ByteArray) ++ d ++ ⟨#[47]⟩ ++ p = zef [zaq, d, p] := by
 rw [zfe _ _ (by simp), zfe _ _ (by simp), zgq]
 apply ByteArray.ext
 simp [zaq]
theorem z9v (d : ByteArray) : (⟨#[114, 101, 115, 111, 117, 114, 99, 101, 115, 47]⟩ : ByteArray) ++ d ++ ⟨#[47, 110, 97, 109, 101]⟩ = zef [bRes, d, zek] := by
 rw [zfe _ _ (by simp), zfe _ _ (by simp), zgq]
 apply ByteArray.ext
 simp [bRes, zek]
def dl (x : Cmp) : List Int := [x.d0, x.d1, x.d2, x.d3]
def clTo (x : Cmp) (m : Nat) : Bool := (((dl x).take m).drop x.wd.toNat).all fun n => n == 0
theorem zyt (x : Cmp) : clTo x x.wd.toNat = true := by
 unfold clTo
 rw [List.drop_of_length_le (by rw [List.length_take]; omega)]; rfl
theorem zyb {x : Cmp} {m : Nat} {y : Int} (h : (dl x)[m]? = some y) (hw : x.wd.toNat <= m) : clTo x (m + 1) = (clTo x m && y == 0) := by
 unfold clTo
 have hm : m < (dl x).length := (List.getElem?_eq_some_iff.1 h).1
 rw [zbe h, List.drop_append_of_le_length (by rw [List.length_take]; omega), List.all_append]
 simp
theorem z3w {x : Cmp} (hw : wOk x = true) : dErr x = if clTo x 4 then [] else [1] := by
 have e : clTo x 4 = !((behind x).any nzB) := by
  unfold clTo behind
  rw [show (dl x).take 4 = dl x from rfl, List.all_eq_not_any_not]
  rfl
 unfold dErr
 rw [hw, e]
 cases (behind x).any nzB <;> rfl
theorem Tryz.z9n : (Tryz.prog.info? 101).map (fun i => (i.zero, i.size, i.bytes)) = some (some (.agg #[.string ⟨#[]⟩, .int .i64 0]), 2, 24) := by kernel_rfl
theorem zke (ls : Leaves) (p : List ByteArray × Nat) : zds (ls ++ [p]) = zds ls ++ [.string (zef p.1), .int .i64 (p.2 : Int)] := by simp [zds]
structure FL (w0 : World) (o : Value) (ls : Leaves) (wr : World) : Prop where
 own : wr.ownsRow w0.heap.size 101 2 o ls.length (zds ls)
 bel : Below w0.heap.size w0 wr
 len : ls.length <= 1000
variable {w0 wr w1 : World} {o o' : Value} {ls ls' : Leaves} {g : Nat} {x : Cmp}
theorem FL.later (h : FL w0 o ls wr) (hb : Below wr.heap.size wr w1) : FL w0 o ls w1 := ⟨zrs h.own hb, h.bel.trans (hb.mono h.bel.size), h.len⟩
structure FG (w0 : World) (g : Nat) (x : Cmp) (o : Value) (ls : Leaves) (wr : World) : Prop where
 fl : FL w0 o ls wr
 cells : zld g x wr
 ne : o.ownBlock ≠ some g
theorem zld.later (h : zld g x wr) (hb : Below wr.heap.size wr w1) : zld g x w1 := by
 obtain ⟨c0, c1, c2, c3, c4, c5, c6⟩ := h
 have S := fun {p : Addr} {u : Value} (h : wr.cell? p = some u) => Below.seen hb (Nat.le_refl _) h
 exact ⟨S c0, S c1, S c2, S c3, S c4, S c5, S c6⟩
theorem FG.later (h : FG w0 g x o ls wr) (hb : Below wr.heap.size wr w1) : FG w0 g x o ls w1 := ⟨h.fl.later hb, h.cells.later hb, h.ne⟩
theorem FG.lt (h : FG w0 g x o ls wr) : g < wr.heap.size := World.block_lt_of_cell? wr _ h.cells.1
def Lft (w w' : World) (v v' : Value) : Prop := (∀ g, g < w.heap.size -> v.ownBlock ≠ some g -> w'.heap[g]? = w.heap[g]?) /\ (v'.ownBlock = v.ownBlock \/ v'.ownBlock = some (w.heap.size + 1))
theorem FG.app (h : FG w0 g x o ls wr) (F : FL w0 o' ls' w1) (K : Lft wr w1 o o') : FG w0 g x o' ls' w1 := by
 have hl := h.lt
 have hb := K.1 g hl h.ne
 obtain ⟨c0, c1, c2, c3, c4, c5, c6⟩ := h.cells
 have S := fun {j : Nat} {u : Value} (h : wr.cell? ⟨g, j, none⟩ = some u) => (World.cell?_of_block (a := ⟨g, j, none⟩) hb).trans h
 refine ⟨F, ⟨S c0, S c1, S c2, S c3, S c4, S c5, S c6⟩, ?_⟩
 rcases K.2 with e | e
 ·rw [e]; exact h.ne
 rw [e]; intro e2; simp at e2; omega
theorem zaz (w0 w : World) {ops : Array Oper} {rest : List Oper} {o : Oper} {a : Act} {Q : Exit -> Act -> World -> Prop} (hgd : o.guard = none) (s x : Operand)
  (ho : o.op = .call { callee := .builtin .append, args := #[s, x], argTypes := #[36, 36] })
  (v : Value) (ls : Leaves) (hs : a.eval s = v) (F : FL w0 v ls w) (p : List ByteArray) (k : Nat) (P : ByteArray) (hP : P = zef p)
  (hx : a.eval x = .slice (some ⟨w.heap.size, 0, none⟩) 1 1) (hlen : ls.length + 1 <= 1000)
  (h : ∀ v' w', Hid (FL w0 v' (ls ++ [(p, k)]) w') -> Hid (Lft w w' v v') -> wpList Tryz.prog ops Q rest (a.put o.dst v') w') :
  wpList Tryz.prog ops Q (o :: rest) a (w.alloc (.cells #[.string P, .int .i64 (k : Int)] 101)) := by
 subst hP
 obtain ⟨i0, hi, hz0, hz1, hz2⟩ := info_parts Tryz.z9n
 obtain ⟨c0, c1⟩ := zdv w (.string (zef p)) (.int .i64 (k : Int)) 101
 have hown := F.own.alloc (.cells #[.string (zef p), .int .i64 (k : Int)] 101)
 have hbase : w0.heap.size <= (w.alloc (.cells #[.string (zef p), .int .i64 (k : Int)] 101)).heap.size := Nat.le_trans F.bel.size (by simp)
 refine wpList_append_own_at _ hgd s x 36 ho w0.heap.size 101 i0 (.agg #[.string ⟨#[]⟩, .int .i64 0]) 2 24 Tryz.underlying36 hi hz0 hz1 hz2 rfl (by decide) v ls.length (zds ls) hs hown ⟨w.heap.size, 0, none⟩ 1 1 [.string (zef p), .int .i64 (k : Int)] hx rfl (fun j u hu => ?_) (by intro u hu; simp at hu; rcases hu with rfl | rfl <;> rfl) (by simp [maxLen]; omega) (by omega) hbase ?_
 ·rw [zbx]
  match j, hu with
  | 0, hu => simp at hu; subst hu; exact c0
  | 1, hu => simp at hu; subst hu; exact c1
  | j + 2, hu => simp at hu
 intro v' w' hown' hgrow _ hat
 refine h v' w' ⟨?_, ?_, by rw [List.length_append]; exact hlen⟩ ⟨fun g hg hne => ?_, ?_⟩
 ·rw [zke, List.length_append]
  exact hown'
 ·exact (F.bel.alloc F.bel.size _).grown hgrow (Nat.le_trans F.bel.size (by simp)) (fun k hk => zcn hown hk)
 ·rw [hgrow.block g (by simp; omega) (fun e => hne e.symm)]
  exact Array.getElem?_push_lt hg |>.trans (Array.getElem?_eq_getElem hg).symm
 rcases hat with h1 | h1
 ·exact .inl h1
 right; rw [h1]; simp
theorem zjn (l : ByteArray) (m n : Nat) : (zay l m n).length <= 1 := by unfold zay; split <;> simp
theorem znl (l : ByteArray) (m n : Nat) (h : (m : Int) < (n : Int)) : zay l m n = [([l], 4)] := by unfold zay; rw [if_pos h]
theorem zrx (l : ByteArray) (m n : Nat) (h : ¬ ((m : Int) < (n : Int))) : zay l m n = [] := by unfold zay; rw [if_neg h]
theorem zit (a b c : ByteArray) (ha : a.size <= 1000) (hb : b.size <= 1000) (hc : a ++ b = c) (W : World) : (Op.stringOp .add a b).run Tryz.prog W = .ok (.string c) W := by
 subst hc
 exact run_string_add_sum W _ _ (by omega)
theorem zld.def {g m : Nat} {x : Cmp} {w : World} {y : Int} (h : zld g x w) (hy : (dl x)[m]? = some y) : w.cell? ⟨g, 3 + m, none⟩ = some (.int .i64 y) := by
 obtain ⟨c0, c1, c2, c3, c4, c5, c6⟩ := h
 match m, hy with
 | 0, hy => simp [dl] at hy; subst hy; exact c3
 | 1, hy => simp [dl] at hy; subst hy; exact c4
 | 2, hy => simp [dl] at hy; subst hy; exact c5
 | 3, hy => simp [dl] at hy; subst hy; exact c6
 | m + 4, hy => simp [dl] at hy
theorem zil (i : Int) : ∃ (n : Int) (b : Bool), zfz i = .tuple #[.int .i64 n, .bool b] /\ (b = true ↔ 0 <= i) /\ (b = true -> n = i) := by
 by_cases h : i < 0
 ·exact ⟨0, false, z0t h, by simp; omega, by simp⟩
 exact ⟨i, true, zkr h, by simp; omega, by simp⟩
theorem z2a {x : Cmp} (h : ¬ (1 <= x.wd /\ x.wd <= 4)) : wErr x = [1] /\ dErr x = [] := by
 have := zzo x h
 simp [wErr, dErr, this]
theorem z9a {x : Cmp} (h : 1 <= x.wd /\ x.wd <= 4) : wErr x = [] /\ dErr x = if clTo x 4 then [] else [1] := by
 have := zmd x h
 exact ⟨by simp [wErr, this], z3w this⟩
theorem FG.grown {w0 wr : World} {g : Nat} {x : Cmp} {o : Value} {ls ls' : Leaves} (h : FG w0 g x o ls wr) (e : ls = ls') : FG w0 g x o ls' wr := e ▸ h
theorem FL.grown {w0 wr : World} {o : Value} {ls ls' : Leaves} (h : FL w0 o ls wr) (e : ls = ls') : FL w0 o ls' wr := e ▸ h
set_option maxRecDepth 100000 in
theorem zdd (w : World) (va vb : Value) (cs : List Cmp) (rs : List Rsc) (hC : zah w va cs) (hQ : zaw w vb rs) (hsC : zbu cs) (hsQ : zbv rs) :
  Calls Tryz.prog 10 #[.agg #[va, vb]] w fun e w' => ∃ lv, e = .returned lv /\ w'.ownsRow w.heap.size 101 2 lv (zak cs rs).length (zds (zak cs rs)) /\ Below w.heap.size w w' := by
 have HC := hid hC
 have HQ := hid hQ
 obtain ⟨a, c, rfl, hcap, hlay⟩ := hC
 obtain ⟨a', c', rfl, hcap', hlay'⟩ := hQ
 have HL := hid hlay
 have HL' := hid hlay'
 have HS := hid hsC
 have HS' := hid hsQ
 have h40 : cs.length <= 40 := hsC.1
 have h40' : rs.length <= 40 := hsQ.1
 have h40i : (cs.length : Int) <= 40 := by omega
 have h40i' : (rs.length : Int) <= 40 := by omega
 clear hlay hlay' hcap hcap' hsC hsQ
 obtain ⟨w0, hw0⟩ : ∃ w0, w0 = w.alloc (.cells #[.slice a cs.length c, .slice a' rs.length c'] 25) := ⟨_, rfl⟩
 have B0 : Hid (Below w.heap.size w w0) := by rw [hw0]; exact (Below.refl _ _).alloc (Nat.le_refl _) _
 obtain ⟨x0, x1⟩ := zdv w (.slice a cs.length c) (.slice a' rs.length c') 25
 rw [<- hw0] at x0 x1
 have X0 := hid x0
 have X1 := hid x1
 obtain ⟨w00, hw00⟩ : ∃ w00, w00 = w0.alloc (.cells #[] 101) := ⟨_, rfl⟩
 have F0 : Hid (FL w0 (.slice (some ⟨w0.heap.size, 0, none⟩) 0 0) [] w00) := by
  rw [hw00]
  exact ⟨World.ownsRow_lit w0 #[] 0 (Nat.le_refl _) (by simp [maxLen]) rfl, (Below.refl _ _).alloc (Nat.le_refl _) _, by simp⟩
 have x0 := Below.seen F0.out.bel (Nat.le_refl _) x0
 go_enter Tryz.func10, Tryz.ntmps10
 go_upto_region 1 with fail
 rw [<- hw0]
 clear hw0
 go_upto_region 2 with fail
 rw [<- hw00]
 clear hw00
 go_upto_if 22 with fail
 go_cut [3] (fun s3 wx => FL w0 s3 (zay zaq 16 cs.length) wx)
 case first =>
  by_cases hm : (16 : Int) < (cs.length : Int)
  ·have R := hid (znl zaq 16 cs.length hm)
   go_wp2_with (at_builtin; refine zaz w0 _ rfl (.tmp 23) (.tmp 25) rfl _ [] (by rfl) F0.out [zaq] 4 _ (zgq _).symm (by rfl) (by simp) ?_; intro v' w' HF HK)
   go_meet
   exact HF.out.grown (by rw [R.out]; rfl)
  have R := hid (zrx zaq 16 cs.length hm)
  go_wp2_with fail
  go_meet
  exact F0.out.grown R.out.symm
 case rest =>
  have HF := hid hcut
  clear hcut F0 x0 x1
  go_wp2_with fail
  go_loopg [3, 4, 5, 6, 7, 8, 9, 10] cs.length (fun gh s3 s4 _ _ _ _ _ _ wx => ∃ k : Nat, k <= cs.length /\ gh = cs.length - k /\ s4 = .int .i64 (k : Int) /\ Hid (FL w0 s3 (zay zaq 16 cs.length ++ zcy cs k) wx))
  case atStart => exact ⟨0, Nat.zero_le _, rfl, rfl, HF.out.grown (by simp [zcy])⟩
  case round =>
   rename World => wo
   obtain ⟨k, hk, rfl, rfl, HK⟩ := hrel
   by_cases hlt : k < cs.length
   ·have hki : (k : Int) < (cs.length : Int) := by omega
    obtain ⟨x, hx⟩ := zal cs k hlt
    obtain ⟨b, o, rfl, hc⟩ : ∃ b o, a = some ⟨b, o, none⟩ /\ ∀ (j : Nat) (x : Cmp), cs[j]? = some x -> w.cell? ⟨b, o + j * 7, none⟩ = some (.string x.s) /\ w.cell? ⟨b, o + j * 7 + 1, none⟩ = some (.int .i64 x.wd) /\ w.cell? ⟨b, o + j * 7 + 2, none⟩ = some (.bool x.rb) /\ w.cell? ⟨b, o + j * 7 + 3, none⟩ = some (.int .i64 x.d0) /\ w.cell? ⟨b, o + j * 7 + 4, none⟩ = some (.int .i64 x.d1) /\ w.cell? ⟨b, o + j * 7 + 5, none⟩ = some (.int .i64 x.d2) /\ w.cell? ⟨b, o + j * 7 + 6, none⟩ = some (.int .i64 x.d3) := by
     rcases HL.out with h | h
     ·rw [h] at hx; simp at hx
     exact h
    obtain ⟨c0, c1, c2, c3, c4, c5, c6⟩ := hc k x hx
    have BW := hid (B0.out.trans (HK.out.bel.mono B0.out.size))
    have S := fun {p : Addr} {u : Value} (h : w.cell? p = some u) => Below.seen BW.out (Nat.le_refl _) h
    have c0 := S c0
    have c1 := S c1
    have c2 := S c2
    have c3 := S c3
    have c4 := S c4
    have c5 := S c5
    have c6 := S c6
    have y0 := Below.seen HK.out.bel (Nat.le_refl _) X0.out
    have CN := hid (zhn hx)
    have HX := hid hx
    obtain ⟨wa, hwa⟩ : ∃ wa, wa = wo.alloc (.cells #[.string x.s, .int .i64 x.wd, .bool x.rb, .int .i64 x.d0, .int .i64 x.d1, .int .i64 x.d2, .int .i64 x.d3] 96) := ⟨_, rfl⟩
    have BA : Hid (Below wo.heap.size wo wa) := by rw [hwa]; exact (Below.refl _ _).alloc (Nat.le_refl _) _
    obtain ⟨g, hg⟩ : ∃ g, g = wo.heap.size := ⟨_, rfl⟩
    obtain ⟨ls, hls⟩ : ∃ ls, ls = zay zaq 16 cs.length ++ zcy cs k := ⟨_, rfl⟩
    have LL : Hid (ls.length <= 121) := by
     show _ <= _
     rw [hls, List.length_append]
     have := zjn zaq 16 cs.length
     have := zge cs k
     omega
    rw [<- hls] at HK
    have GA : Hid (FG w0 g x _ ls wa) := ⟨HK.out.later BA.out, by
     rw [hwa, hg]
     exact ⟨zda wo [.string x.s, .int .i64 x.wd, .bool x.rb, .int .i64 x.d0, .int .i64 x.d1, .int .i64 x.d2, .int .i64 x.d3] 96 0 _ rfl, zda wo [.string x.s, .int .i64 x.wd, .bool x.rb, .int .i64 x.d0, .int .i64 x.d1, .int .i64 x.d2, .int .i64 x.d3] 96 1 _ rfl, zda wo [.string x.s, .int .i64 x.wd, .bool x.rb, .int .i64 x.d0, .int .i64 x.d1, .int .i64 x.d2, .int .i64 x.d3] 96 2 _ rfl, zda wo [.string x.s, .int .i64 x.wd, .bool x.rb, .int .i64 x.d0, .int .i64 x.d1, .int .i64 x.d2, .int .i64 x.d3] 96 3 _ rfl, zda wo [.string x.s, .int .i64 x.wd, .bool x.rb, .int .i64 x.d0, .int .i64 x.d1, .int .i64 x.d2, .int .i64 x.d3] 96 4 _ rfl, zda wo [.string x.s, .int .i64 x.wd, .bool x.rb, .int .i64 x.d0, .int .i64 x.d1, .int .i64 x.d2, .int .i64 x.d3] 96 5 _ rfl, zda wo [.string x.s, .int .i64 x.wd, .bool x.rb, .int .i64 x.d0, .int .i64 x.d1, .int .i64 x.d2, .int .i64 x.d3] 96 6 _ rfl⟩, fun e => by
     have := (HK.out.own.lt _ e).2
     omega⟩
    have DC := hid (zkk k (by omega) wa)
    have d2 : (dig k).size <= 2 := zii k (by omega)
    obtain ⟨p1, hp1⟩ : ∃ p1, p1 = (⟨#[99, 111, 109, 112, 111, 110, 101, 110, 116, 115, 47]⟩ : ByteArray) ++ dig k := ⟨_, rfl⟩
    have s1 : p1.size <= 20 := by rw [hp1, ByteArray.size_append]; show 11 + _ <= _; omega
    obtain ⟨p2, hp2⟩ : ∃ p2, p2 = p1 ++ (⟨#[47]⟩ : ByteArray) := ⟨_, rfl⟩
    have s2 : p2.size <= 30 := by rw [hp2, ByteArray.size_append]; show _ + 1 <= _; omega
    have a1 := zit ⟨#[99, 111, 109, 112, 111, 110, 101, 110, 116, 115, 47]⟩ (dig k) p1 (show 11 <= 1000 by decide) (by omega) hp1.symm
    have a2 := zit p1 ⟨#[47]⟩ p2 (by omega) (show 1 <= 1000 by decide) hp2.symm
    have PJ : ∀ p, p2 ++ p = zef [zaq, dig k, p] := fun p => by rw [hp2, hp1]; exact yas (dig k) p
    have a3 := zit p2 ⟨#[110, 97, 109, 101]⟩ (zef [zaq, dig k, zek]) (by omega) (show 4 <= 1000 by decide) (PJ _)
    have a4 := zit p2 ⟨#[119, 105, 100, 116, 104]⟩ (zef [zaq, dig k, zlc]) (by omega) (show 5 <= 1000 by decide) (PJ _)
    have a5 := zit p2 ⟨#[100, 101, 102, 97, 117, 108, 116]⟩ (zef [zaq, dig k, zgp]) (by omega) (show 7 <= 1000 by decide) (PJ _)
    have A3 := hid a3
    have A4 := hid a4
    have A5 := hid a5
    clear hp1 hp2 PJ S hc hx s1 s2 a3 a4 a5 d2
    go_upto_region 8 with fail
    rw [<- hwa, <- hg]
    clear hwa hg
    go_wp2_with fail
    refine DC.out.mono ?_
    rintro e w1 ⟨rfl, hb1⟩
    have G1 := hid (GA.out.later hb1)
    obtain ⟨c0, c1, c2, c3, c4, c5, c6⟩ := G1.out.cells
    have NC := hid (zjr x.s w1)
    have y0 := Below.seen G1.out.fl.bel (Nat.le_refl _) X0.out
    have y1 := Below.seen G1.out.fl.bel (Nat.le_refl _) X1.out
    clear hb1 DC GA BA HK
    go_wp2_with fail
    refine NC.out.mono ?_
    rintro e w2 ⟨rfl, rfl⟩
    clear NC
    go_upto_if 46 with fail
    go_cut [3] from 27 to 107 (fun s3 wx => FG w0 g x s3 (ls ++ at3 zaq k zek (nErr (zar ((cs.take k).map Cmp.s)) x.s)) wx)
    case first =>
     cases hi : isNm x.s with
     | false =>
      have R := hid (zte (zar ((cs.take k).map Cmp.s)) hi)
      have a3 := A3.out
      go_wp2_with (at_builtin; refine zaz w0 _ rfl (.tmp 47) (.tmp 51) rfl _ ls (by rfl) G1.out.fl [zaq, dig k, zek] 10 _ rfl (by rfl) (by have := LL.out; omega) ?_; intro v' w' HF HK)
      go_meet
      refine (G1.out.app HF.out HK.out).grown ?_
      rw [R.out]; rfl
     | true =>
      have BW2 := hid (B0.out.trans (G1.out.fl.bel.mono B0.out.size))
      have FC := hid (znr w2 _ (.slice a' rs.length c') cs (HC.out.later BW2.out) (by omega) x.s)
      have hmem : x.s ∈ cs.map Cmp.s := List.mem_map.2 ⟨x, List.mem_of_getElem? HX.out, rfl⟩
      have hf0 := (zkx x.s (cs.map Cmp.s)).2 hmem
      have FM := hid (zdr x.s (cs.map Cmp.s) 0 k)
      rw [zkr (by omega)] at FC
      generalize zav x.s (cs.map Cmp.s) 0 = fi at *
      have F0' := hid hf0
      have HI := hid hi
      clear hmem hf0 hi
      go_wp2_with fail
      refine FC.out.mono ?_
      rintro e w3 ⟨rfl, hb3⟩
      have G3 := hid (G1.out.later hb3)
      clear FC hb3
      by_cases hfk : fi < (k : Int)
      ·have R : Hid (nErr (zar ((cs.take k).map Cmp.s)) x.s = [9]) := zmf HI.out (by rw [List.map_take]; exact FM.out.1 ⟨F0'.out, by omega⟩)
       have a3 := A3.out
       go_wp2_with (at_builtin; refine zaz w0 _ rfl (.tmp 66) (.tmp 70) rfl _ ls (by rfl) G3.out.fl [zaq, dig k, zek] 9 _ rfl (by rfl) (by have := LL.out; omega) ?_; intro v' w' HF HK)
       go_meet
       refine (G3.out.app HF.out HK.out).grown ?_
       rw [R.out]; rfl
      have R : Hid (nErr (zar ((cs.take k).map Cmp.s)) x.s = []) := zlr HI.out (by rw [List.map_take]; intro h; have := (FM.out.2 h).2; omega)
      go_wp2_with fail
      go_meet
      refine G3.out.grown ?_
      rw [R.out]; simp [at3]
    case rest =>
     have G2 := hid hcut
     obtain ⟨L1, hL1⟩ : ∃ L1, L1 = ls ++ at3 zaq k zek (nErr (zar ((cs.take k).map Cmp.s)) x.s) := ⟨_, rfl⟩
     have LL1 : Hid (L1.length <= 122) := by
      show _ <= _
      rw [hL1, List.length_append, zqc]
      have := (zgr (zar ((cs.take k).map Cmp.s)) x.s).1
      have := LL.out
      omega
     rw [<- hL1] at G2
     have CE : Hid (zay zaq 16 cs.length ++ zcy cs (k + 1) = L1 ++ (at3 zaq k zlc (wErr x) ++ at3 zaq k zgp (dErr x))) := by
      show _ = _
      rw [CN.out, hL1, hls]; simp [zot]
     clear hcut G1 hL1 hls CN HX A3 c0 c1 c2 c3 c4 c5 c6 a1 a2 y0 y1
     obtain ⟨c0, c1, c2, c3, c4, c5, c6⟩ := G2.out.cells
     by_cases hw : 1 <= x.wd /\ x.wd <= 4
     ·obtain ⟨we, de⟩ := z9a hw
      obtain ⟨hw1, hw4⟩ := hw
      obtain ⟨m0, hm0⟩ : ∃ m0 : Nat, x.wd = (m0 : Int) := Int.eq_ofNat_of_zero_le (by omega)
      have htn : x.wd.toNat = m0 := by omega
      have CF : Hid (clTo x m0 = true) := by rw [<- htn]; exact zyt x
      have CW := hid htn
      rw [hm0] at c1 hw1 hw4
      rw [we, de] at CE
      have h04 : m0 <= 4 := by omega
      have n1 : ¬ ((m0 : Int) < 1) := by omega
      have n4 : ¬ ((4 : Int) < (m0 : Int)) := by omega
      clear we de hm0 htn c2 c3 c4 c5 c6 hw1 hw4
      go_wp2_with fail
      go_loopg [9, 10] (4 - m0) (fun gh s9 s10 wx => wx = wc /\ ∃ m : Nat, m0 <= m /\ m <= 4 /\ gh = 4 - m /\ s10 = .int .i64 (m : Int) /\ ∃ cl : Bool, s9 = .bool cl /\ Hid (cl = clTo x m))
      case atStart => exact ⟨rfl, m0, Nat.le_refl _, h04, rfl, rfl, true, rfl, CF.out.symm⟩
      case round =>
       obtain ⟨rfl, m, hm1, hm2, rfl, rfl, cl, rfl, HCl⟩ := hrel
       by_cases hm : m < 4
       ·have hmi : (m : Int) < 4 := by omega
        obtain ⟨y, hy⟩ := zal (dl x) m hm
        have cy := G2.out.cells.def hy
        have CX := hid (zyb hy (by have := CW.out; omega))
        clear hy
        cases cl with
        | false =>
         have R : Hid (false = clTo x (m + 1)) := by show _ = _; rw [CX.out, <- HCl.out]; rfl
         clear HCl CX cy
         go_wp2_with fail
         go_roundg (4 - (m + 1))
         case measure => omega
         case rel => exact ⟨rfl, m + 1, by omega, by omega, rfl, by go_num, false, rfl, R.out⟩
        | true =>
         have R : Hid ((y == 0) = clTo x (m + 1)) := by show _ = _; rw [CX.out, <- HCl.out]; rfl
         clear HCl CX
         go_wp2_with fail
         go_roundg (4 - (m + 1))
         case measure => omega
         case rel => exact ⟨rfl, m + 1, by omega, by omega, rfl, by go_num, (y == 0), rfl, R.out⟩
       have hmi : ¬ ((m : Int) < 4) := by omega
       have hm4 : m = 4 := by omega
       rw [hm4] at HCl
       cases cl with
       | true =>
        have R : Hid (L1 = zay zaq 16 cs.length ++ zcy cs (k + 1)) := by show _ = _; rw [CE.out, <- HCl.out]; simp [at3]
        clear HCl hm4
        go_wp2_with fail
        go_roundg (cs.length - (k + 1))
        case measure => omega
        case rel => exact ⟨k + 1, by omega, rfl, by go_num, G2.out.fl.grown R.out⟩
       | false =>
        have R : Hid (L1 ++ [([zaq, dig k, zgp], 1)] = zay zaq 16 cs.length ++ zcy cs (k + 1)) := by show _ = _; rw [CE.out, <- HCl.out]; simp [at3]
        have a5 := A5.out
        clear HCl hm4
        go_wp2_with (at_builtin; refine zaz w0 _ rfl (.tmp 102) (.tmp 106) rfl _ L1 (by rfl) G2.out.fl [zaq, dig k, zgp] 1 _ rfl (by rfl) (by have := LL1.out; omega) ?_; intro v' w' HF HK)
        go_roundg (cs.length - (k + 1))
        case measure => omega
        case rel => exact ⟨k + 1, by omega, rfl, by go_num, HF.out.grown R.out⟩
     obtain ⟨we, de⟩ := z2a hw
     have R : Hid (L1 ++ [([zaq, dig k, zlc], 1)] = zay zaq 16 cs.length ++ zcy cs (k + 1)) := by show _ = _; rw [CE.out, we, de]; simp [at3]
     have a4 := A4.out
     clear we de CE
     by_cases hw1 : x.wd < 1
     ·clear hw
      go_wp2_with (at_builtin; refine zaz w0 _ rfl (.tmp 80) (.tmp 84) rfl _ L1 (by rfl) G2.out.fl [zaq, dig k, zlc] 1 _ rfl (by rfl) (by have := LL1.out; omega) ?_; intro v' w' HF HK)
      go_roundg (cs.length - (k + 1))
      case measure => omega
      case rel => exact ⟨k + 1, by omega, rfl, by go_num, HF.out.grown R.out⟩
     have hw4 : (4 : Int) < x.wd := by omega
     clear hw
     go_wp2_with (at_builtin; refine zaz w0 _ rfl (.tmp 80) (.tmp 84) rfl _ L1 (by rfl) G2.out.fl [zaq, dig k, zlc] 1 _ rfl (by rfl) (by have := LL1.out; omega) ?_; intro v' w' HF HK)
     go_roundg (cs.length - (k + 1))
     case measure => omega
     case rel => exact ⟨k + 1, by omega, rfl, by go_num, HF.out.grown R.out⟩
   have hki : ¬ ((k : Int) < (cs.length : Int)) := by omega
   have hkl : k = cs.length := by omega
   obtain ⟨M1, hM1⟩ : ∃ M1, M1 = zay zaq 16 cs.length ++ zcy cs cs.length := ⟨_, rfl⟩
   have ML : Hid (M1.length <= 121) := by
    show _ <= _
    rw [hM1, List.length_append]
    have := zjn zaq 16 cs.length
    have := zge cs cs.length
    omega
   have HM := hid hM1
   rw [hkl, <- hM1] at HK
   have y0 := Below.seen HK.out.bel (Nat.le_refl _) X0.out
   have y1 := Below.seen HK.out.bel (Nat.le_refl _) X1.out
   clear hkl hM1
   go_upto_if 111 with fail
   go_cut [3] (fun s3 wx => FL w0 s3 (M1 ++ zay bRes 8 rs.length) wx)
   case first =>
    by_cases hm : (8 : Int) < (rs.length : Int)
    ·have R := hid (znl bRes 8 rs.length hm)
     go_wp2_with (at_builtin; refine zaz w0 _ rfl (.tmp 112) (.tmp 114) rfl _ M1 (by rfl) HK.out [bRes] 4 _ (zgq _).symm (by rfl) (by have := ML.out; omega) ?_; intro v' w' HF HK)
     go_meet
     exact HF.out.grown (by rw [R.out])
    have R := hid (zrx bRes 8 rs.length hm)
    go_wp2_with fail
    go_meet
    exact HK.out.grown (by rw [R.out, List.append_nil])
   case rest =>
    have HF := hid hcut
    clear hcut HK y0 y1 hki hk hlt
    go_wp2_with fail
    go_loopg [3, 11, 12, 13, 14, 15, 16, 17] rs.length (fun gh s3 s11 _ _ _ _ _ _ wx => ∃ k : Nat, k <= rs.length /\ gh = rs.length - k /\ s11 = .int .i64 (k : Int) /\ Hid (FL w0 s3 (M1 ++ zay bRes 8 rs.length ++ resL cs rs k) wx))
    case atStart => exact ⟨0, Nat.zero_le _, rfl, rfl, HF.out.grown (by simp [resL])⟩
    case round =>
     rename World => wq
     obtain ⟨j, hj, rfl, rfl, HK⟩ := hrel
     have y0 := Below.seen HK.out.bel (Nat.le_refl _) X0.out
     have y1 := Below.seen HK.out.bel (Nat.le_refl _) X1.out
     by_cases hjl : j < rs.length
     ·have hji : (j : Int) < (rs.length : Int) := by omega
      obtain ⟨x, hx⟩ := zal rs j hjl
      obtain ⟨b', o', rfl, hc⟩ : ∃ b o, a' = some ⟨b, o, none⟩ /\ ∀ (j : Nat) (x : Rsc), rs[j]? = some x -> w.cell? ⟨b, o + j * 2, none⟩ = some (.string x.s) /\ w.cell? ⟨b, o + j * 2 + 1, none⟩ = some (.int .i64 x.n) := by
       rcases HL'.out with h | h
       ·rw [h] at hx; simp at hx
       exact h
      have BW := hid (B0.out.trans (HK.out.bel.mono B0.out.size))
      have c0 := Below.seen BW.out (Nat.le_refl _) (hc j x hx).1
      have RN := hid (zgj (cs := cs) hx)
      obtain ⟨ls, hls⟩ : ∃ ls, ls = M1 ++ zay bRes 8 rs.length ++ resL cs rs j := ⟨_, rfl⟩
      have LL : Hid (ls.length <= 170) := by
       show _ <= _
       rw [hls, List.length_append, List.length_append]
       have := ML.out
       have := zjn bRes 8 rs.length
       have := zma cs rs j
       omega
      have LN : Hid (M1 ++ zay bRes 8 rs.length ++ resL cs rs (j + 1) = ls ++ at3 bRes j zek (nErr (zar (cs.map Cmp.s ++ (rs.take j).map Rsc.s)) x.s)) := by
       show _ = _
       rw [RN.out, hls, List.append_assoc _ (resL cs rs j)]
      rw [<- hls] at HK
      have DC := hid (zkk j (by omega) wq)
      have d2 : (dig j).size <= 2 := zii j (by omega)
      obtain ⟨p1, hp1⟩ : ∃ p1, p1 = (⟨#[114, 101, 115, 111, 117, 114, 99, 101, 115, 47]⟩ : ByteArray) ++ dig j := ⟨_, rfl⟩
      have s1 : p1.size <= 20 := by rw [hp1, ByteArray.size_append]; show 10 + _ <= _; omega
      have a1 := zit ⟨#[114, 101, 115, 111, 117, 114, 99, 101, 115, 47]⟩ (dig j) p1 (show 10 <= 1000 by decide) (by omega) hp1.symm
      have a2 := zit p1 ⟨#[47, 110, 97, 109, 101]⟩ (zef [bRes, dig j, zek]) (by omega) (show 5 <= 1000 by decide) (by rw [hp1]; exact z9v (dig j))
      clear hp1 hc hx s1 d2 hls RN
      go_wp2_with fail
      refine DC.out.mono ?_
      rintro e w1 ⟨rfl, hb1⟩
      have K1 := hid (HK.out.later hb1)
      have y0 := Below.seen K1.out.bel (Nat.le_refl _) X0.out
      have y1 := Below.seen K1.out.bel (Nat.le_refl _) X1.out
      have BW1 := hid (B0.out.trans (K1.out.bel.mono B0.out.size))
      have FC := hid (znr w1 _ (.slice (some ⟨b', o', none⟩) rs.length c') cs (HC.out.later BW1.out) (by omega) x.s)
      have FA := hid (zkx x.s (cs.map Cmp.s))
      obtain ⟨n1, b1, hv1, hb1', hn1⟩ := zil (zav x.s (cs.map Cmp.s) 0)
      rw [hv1] at FC
      have I1 : Hid (b1 = true ↔ x.s ∈ cs.map Cmp.s) := hb1'.trans FA.out
      clear hb1 DC HK c0 hv1 hb1' hn1 FA
      go_wp2_with fail
      refine FC.out.mono ?_
      rintro e w2 ⟨rfl, hb2⟩
      have K2 := hid (K1.out.later hb2)
      have y0 := Below.seen K2.out.bel (Nat.le_refl _) X0.out
      have y1 := Below.seen K2.out.bel (Nat.le_refl _) X1.out
      have BW2 := hid (B0.out.trans (K2.out.bel.mono B0.out.size))
      have RC := hid (zlj w2 (.slice a cs.length c) _ rs (HQ.out.later BW2.out) (by omega) x.s)
      have FM := hid (zdr x.s (rs.map Rsc.s) 0 j)
      obtain ⟨n2, b2, hv2, hb2', hn2⟩ := zil (zav x.s (rs.map Rsc.s) 0)
      rw [hv2] at RC
      have I2 : Hid ((b2 = true /\ n2 < (j : Int)) ↔ x.s ∈ (rs.take j).map Rsc.s) := by
       show _ ↔ _
       rw [List.map_take, <- FM.out]
       constructor
       ·rintro ⟨h1, h2⟩
        exact ⟨hb2'.1 h1, by rw [<- hn2 h1]; omega⟩
       rintro ⟨h1, h2⟩
       have h3 := hb2'.2 h1
       exact ⟨h3, by rw [hn2 h3]; omega⟩
      clear hb2 FC K1 hv2 hb2' hn2 FM
      go_wp2_with fail
      refine RC.out.mono ?_
      rintro e w3 ⟨rfl, hb3⟩
      have K3 := hid (K2.out.later hb3)
      have y0 := Below.seen K3.out.bel (Nat.le_refl _) X0.out
      have y1 := Below.seen K3.out.bel (Nat.le_refl _) X1.out
      have NC := hid (zjr x.s w3)
      clear hb3 RC K2
      go_wp2_with fail
      refine NC.out.mono ?_
      rintro e w4 ⟨rfl, rfl⟩
      clear NC
      cases hi : isNm x.s with
      | false =>
       have R : Hid (ls ++ [([bRes, dig j, zek], 10)] = M1 ++ zay bRes 8 rs.length ++ resL cs rs (j + 1)) := by show _ = _; rw [LN.out, zte _ hi]; rfl
       clear LN I1 I2
       go_wp2_with (at_builtin; refine zaz w0 _ rfl (.tmp 148) (.tmp 151) rfl _ ls (by rfl) K3.out [bRes, dig j, zek] 10 _ rfl (by rfl) (by have := LL.out; omega) ?_; intro v' w' HF HK)
       go_roundg (rs.length - (j + 1))
       case measure => omega
       case rel => exact ⟨j + 1, by omega, rfl, by go_num, HF.out.grown R.out⟩
      | true =>
       cases b1 with
       | true =>
        have R : Hid (ls ++ [([bRes, dig j, zek], 9)] = M1 ++ zay bRes 8 rs.length ++ resL cs rs (j + 1)) := by show _ = _; rw [LN.out, zmf hi (List.mem_append.2 (.inl (I1.out.1 rfl)))]; rfl
        clear LN I1 I2
        go_wp2_with (at_builtin; refine zaz w0 _ rfl (.tmp 162) (.tmp 165) rfl _ ls (by rfl) K3.out [bRes, dig j, zek] 9 _ rfl (by rfl) (by have := LL.out; omega) ?_; intro v' w' HF HK)
        go_roundg (rs.length - (j + 1))
        case measure => omega
        case rel => exact ⟨j + 1, by omega, rfl, by go_num, HF.out.grown R.out⟩
       | false =>
        have N1 : Hid (¬ x.s ∈ cs.map Cmp.s) := fun h => Bool.false_ne_true (I1.out.2 h)
        cases b2 with
        | false =>
         have R : Hid (ls = M1 ++ zay bRes 8 rs.length ++ resL cs rs (j + 1)) := by
          show _ = _
          rw [LN.out, zlr hi (fun h => (List.mem_append.1 h).elim N1.out (fun h => Bool.false_ne_true (I2.out.2 h).1))]; simp [at3]
         clear LN I1 I2 N1
         go_wp2_with fail
         go_roundg (rs.length - (j + 1))
         case measure => omega
         case rel => exact ⟨j + 1, by omega, rfl, by go_num, K3.out.grown R.out⟩
        | true =>
         by_cases hnj : n2 < (j : Int)
         ·have R : Hid (ls ++ [([bRes, dig j, zek], 9)] = M1 ++ zay bRes 8 rs.length ++ resL cs rs (j + 1)) := by show _ = _; rw [LN.out, zmf hi (List.mem_append.2 (.inr (I2.out.1 ⟨rfl, hnj⟩)))]; rfl
          clear LN I1 I2 N1
          go_wp2_with (at_builtin; refine zaz w0 _ rfl (.tmp 162) (.tmp 165) rfl _ ls (by rfl) K3.out [bRes, dig j, zek] 9 _ rfl (by rfl) (by have := LL.out; omega) ?_; intro v' w' HF HK)
          go_roundg (rs.length - (j + 1))
          case measure => omega
          case rel => exact ⟨j + 1, by omega, rfl, by go_num, HF.out.grown R.out⟩
         have R : Hid (ls = M1 ++ zay bRes 8 rs.length ++ resL cs rs (j + 1)) := by
          show _ = _
          rw [LN.out, zlr hi (fun h => (List.mem_append.1 h).elim N1.out (fun h => hnj (I2.out.2 h).2))]; simp [at3]
         clear LN I1 I2 N1
         go_wp2_with fail
         go_roundg (rs.length - (j + 1))
         case measure => omega
         case rel => exact ⟨j + 1, by omega, rfl, by go_num, K3.out.grown R.out⟩
     have hji : ¬ ((j : Int) < (rs.length : Int)) := by omega
     have R : Hid (M1 ++ zay bRes 8 rs.length ++ resL cs rs j = zak cs rs) := by
      show _ = _
      rw [HM.out, show j = rs.length by omega]
      simp [zak]
     have FE := hid (HK.out.grown R.out)
     clear R HK
     go_wp2_with fail
     go_ret
     exact ⟨_, rfl, FE.out.own.mono B0.out.size, B0.out.trans (FE.out.bel.mono B0.out.size)⟩
end Sc
namespace Dw
open Go.RowKit Go.Shelf Go.Maps
open At (St bAl zaa zab zgi)
open Sc (Cmp Rsc zah zaw zbu zbv zak zdd)
open Wo (NumO)
theorem z0f {ops : Array Oper} {o : Oper} {a : Act} {K : Act -> World -> Prop} {Q : Exit -> Act -> World -> Prop} {E : Prop} (hgd : o.guard = none) (s x : Operand)
  (ho : o.op = .call { callee := .builtin .append, args := #[s, x], argTypes := #[68, 68] }) {N pb : Nat} {w0 wc : World} {v : Value} {l : List Int} {z : Int} (hown : NumO N w0 v l) (hl : l.length <= 1000) (hB : N <= w0.heap.size) (hb : Below w0.heap.size w0 wc) (hpb : wc.heap[pb]? = some (.cells #[.int .i64 z] 3 (0, 0)))
  (hs : a.eval s = v) (hx : a.eval x = .slice (some ⟨pb, 0, none⟩) 1 1)
  (h : ∀ a' c' w2, Hid (NumO N w2 (.slice a' (l.length + 1) c') (l ++ [z]) /\ St (fun x => v.ownBlock = some x) w0 w2) -> K (a.put o.dst (.slice a' (l.length + 1) c')) w2) :
  if Region.wanted o (yielded ops a.tmps) = true then Oper.wp Tryz.prog o a wc K Q else E := by
 obtain ⟨i0, hi, hz0, hz1, hz2⟩ := info_parts zgi
 have ho2 : wc.ownsRow N 3 1 v l.length (l.map encZ) := NumO.later hown hb
 have hh := hb.size
 refine step_append_lies _ hgd s x 68 ho N 3 i0 (.int .i64 0) 1 8 Tryz.underlying68 hi hz0 hz1 hz2 rfl (by decide) v l.length (l.map encZ) hs ho2 ⟨pb, 0, none⟩ 1 1 [encZ z] hx rfl (fun j u hu => by
  rw [zbx]
  match j, hu with
  | 0, hu =>
   simp at hu
   subst hu
   exact zaa hpb rfl
  | j + 1, hu => simp at hu) (by intro u hu; simp at hu; subst hu; rfl) (by decide) (by unfold maxLen; omega) (by omega) (by omega) wc.heap.size rfl ?_
 intro g' cap w2 ow hg hat hlt
 refine h _ cap w2 ⟨?_, (St.of_below hb).trans (St.zam (S := fun x => v.ownBlock = some x) hg fun k e => e) fun _ _ q => q⟩
 show World.ownsRow _ _ _ _ _ _ _
 rw [List.length_append, List.map_append]
 exact ow
set_option maxRecDepth 100000 in
theorem ztc (W : World) (va vb : Value) (cs : List Cmp) (rs : List Rsc) (hC : zah W va cs) (hQ : zaw W vb rs) (hsC : zbu cs) (hsQ : zbv rs) (h16 : zak cs rs = [] -> cs.length <= 16) (m : Int) :
  Calls Tryz.prog 9 #[.agg #[va, vb], .int .i64 m] W fun e W' => (zak cs rs = [] /\ 0 <= m /\ m <= 64 -> ∃ b, e = .returned (.pointer (some ⟨b, 0, none⟩)) /\ Du W (fun y => y = b) W' b va vb (.slice none 0 0) ⟨cs, m, [], 0, 0⟩) /\ (¬ (zak cs rs = [] /\ 0 <= m /\ m <= 64) -> e = .returned (.pointer none)) /\ Below W.heap.size W W' := by
 obtain ⟨w1, hw1⟩ : ∃ w1, w1 = W.alloc (.cells #[va, vb] 25) := ⟨_, rfl⟩
 have b1 : Below W.heap.size W w1 := by rw [hw1]; exact bAl _ _
 have r1 : w1.heap[W.heap.size]? = some (.cells #[va, vb] 25 (0, 0)) := by rw [hw1]; exact heap_alloc_new W _
 have CK := hid (zdd w1 va vb cs rs (hC.later b1) (hQ.later b1) hsC hsQ)
 obtain ⟨a', c', rfl, -, -⟩ := id hQ
 obtain ⟨a, cc, rfl, -, -⟩ := id hC
 have x0 : w1.cell? ⟨W.heap.size, 0, none⟩ = some (.slice a cs.length cc) := zaa r1 rfl
 have x1 : w1.cell? ⟨W.heap.size, 1, none⟩ = some (.slice a' rs.length c') := zaa r1 rfl
 have HW1 := hid hw1
 have B1 := hid b1
 have R1 := hid r1
 have H16 := hid h16
 have HC := hid hC
 clear hw1 b1 r1 hC hQ hsC hsQ h16
 go_enter Tryz.func9, Tryz.ntmps9
 go_upto_region 1 with fail
 rw [<- HW1.out]
 clear HW1
 by_cases hck : zak cs rs = []
 ·have hz : (zak cs rs).length = 0 := by rw [hck]; rfl
  rw [hz] at CK
  go_wp2_with fail
  refine CK.out.mono ?_
  rintro e w2 ⟨lv, rfl, ho, hb2⟩
  obtain ⟨la, lc, rfl⟩ := zaf ho
  have B2 := hid (B1.out.trans (hb2.mono B1.out.size))
  have q2 := zab hb2 (Nat.le_refl _) R1.out
  have z0 : w2.cell? ⟨W.heap.size, 0, none⟩ = some (.slice a cs.length cc) := zaa q2 rfl
  have z1 : w2.cell? ⟨W.heap.size, 1, none⟩ = some (.slice a' rs.length c') := zaa q2 rfl
  clear ho hb2 CK q2 x0 x1
  by_cases h0 : m < 0
  ·have hn : ¬ (zak cs rs = [] /\ 0 <= m /\ m <= 64) := fun q => by omega
   go_wp2_with fail
   go_ret
   exact ⟨fun q => absurd q hn, fun _ => rfl, B2.out⟩
  by_cases h1 : 64 < m
  ·have hn : ¬ (zak cs rs = [] /\ 0 <= m /\ m <= 64) := fun q => by omega
   go_wp2_with fail
   go_ret
   exact ⟨fun q => absurd q hn, fun _ => rfl, B2.out⟩
  have hy : zak cs rs = [] /\ 0 <= m /\ m <= 64 := ⟨hck, by omega, by omega⟩
  obtain ⟨w3, hw3⟩ : ∃ w3, w3 = w2.alloc (.cells #[.slice a cs.length cc, .slice a' rs.length c', .int .i64 m, .slice none 0 0, .int .i64 0, .int .i64 0] 62) := ⟨_, rfl⟩
  have b3 : Below w2.heap.size w2 w3 := by rw [hw3]; exact bAl _ _
  have r3 : w3.heap[w2.heap.size]? = some (.cells #[.slice a cs.length cc, .slice a' rs.length c', .int .i64 m, .slice none 0 0, .int .i64 0, .int .i64 0] 62 (0, 0)) := by rw [hw3]; exact heap_alloc_new w2 _
  have s3 : w3.heap.size = w2.heap.size + 1 := by rw [hw3]; simp
  have B3 := B2.out.trans (b3.mono B2.out.size)
  have FIN : Hid (∃ b, Ending.returned (.pointer (some ⟨w2.heap.size, 0, none⟩)) = .returned (.pointer (some ⟨b, 0, none⟩)) /\ Du W (fun y => y = b) w3 b (.slice a cs.length cc) (.slice a' rs.length c') (.slice none 0 0) ⟨cs, m, [], 0, 0⟩) := hid ⟨_, rfl, r3, rfl, fun y e => by rw [e]; have := B2.out.size; omega, HC.out, B3, H16.out hck, Or.zin _ _, fun y hy => by simp [Value.ownBlock] at hy⟩
  have HB3 := hid B3
  have HW3 := hid hw3
  clear hw3 b3 r3 s3 B3
  go_wp2_with fail
  go_ret
  rw [<- HW3.out]
  exact ⟨fun _ => FIN.out, fun q => absurd hy q, HB3.out⟩
 have hz : 0 < (zak cs rs).length := List.length_pos_iff.2 hck
 have hn : ¬ (zak cs rs = [] /\ 0 <= m /\ m <= 64) := fun q => hck q.1
 generalize (zak cs rs).length = n at *
 go_wp2_with fail
 refine CK.out.mono ?_
 rintro e w2 ⟨lv, rfl, ho, hb2⟩
 obtain ⟨la, lc, rfl⟩ := zaf ho
 have B2 := hid (B1.out.trans (hb2.mono B1.out.size))
 have hzi : (0 : Int) < (n : Int) := by omega
 clear ho hb2 CK x0 x1
 go_wp2_with fail
 go_ret
 exact ⟨fun q => absurd q hn, fun _ => rfl, B2.out⟩
end Dw
namespace Dw
open Go.RowKit Go.Shelf Go.Maps
open At (St bAl zaa zab zac)
open Sc (Cmp Rsc zah zaw zbu zbv zak zdd)
open Wo (NumO)
structure Nb (W : World) (b : Nat) (va vb : Value) (most : Nat) (sd : Int) (gv : Value) (gl : List Int) (wr : World) : Prop where
 box : wr.heap[b]? = some (.cells #[va, vb, .int .i64 (most : Int), .slice none 0 0, .int .i64 0, .int .i64 1, .int .i64 sd, gv, .slice none 0 0, .bool false] 71 (0, 0))
 sch : wr.heap[W.heap.size]? = some (.cells #[va, vb] 25 (0, 0))
 num : NumO W.heap.size wr gv gl
 bel : Below W.heap.size W wr
theorem zxt {N : Nat} {w : World} {v : Value} {xs : List Int} (h : NumO N w v xs) {k : Nat} {c : Array Value} {t : TypeId} (hk : w.heap[k]? = some (.cells c t (0, 0))) (ht : t ≠ 3) : v.ownBlock ≠ some k := fun e => by
 obtain ⟨c', q⟩ := So.zbd h e
 rw [hk] at q
 simp at q
 exact ht q.2
theorem Nb.next {W : World} {b : Nat} {va vb : Value} {most : Nat} {sd : Int} {gv : Value} {gl : List Int} {wr : World} (h : Nb W b va vb most sd gv gl wr) (hb : W.heap.size < b) {v' : Value} {gl' : List Int} {w2 : World} (h6 : NumO W.heap.size w2 v' gl' /\ St (fun x => gv.ownBlock = some x) wr w2) :
  Nb W b va vb most sd v' gl' (w2.setCell ⟨b, 7, none⟩ v') /\ w2.cell? ⟨b, 7, none⟩ = some gv /\ w2.frozen? ⟨b, 7, none⟩ = false := by
 have bx := h6.2.at h.box (zxt h.num h.box (by decide))
 have sc := h6.2.at h.sch (zxt h.num h.sch (by decide))
 have st : St (fun y => y = b) w2 (w2.setCell ⟨b, 7, none⟩ v') := St.setCell _ rfl
 have hlt : ∀ y, gv.ownBlock = some y -> W.heap.size <= y := fun y hy => (World.ownsRow.lt h.num y hy).1
 refine ⟨⟨heap_setCell_same w2 b 7 _ _ v' bx, st.at sc (by omega), So.zai h6.1 st fun y hy e => zxt h6.1 bx (by decide) (e ▸ hy), ?_⟩, zaa bx rfl, zac bx 7⟩
 have b2 := h.bel.trans (h6.2.below (B := W.heap.size) hlt h.bel.size)
 exact b2.trans (st.below (B := W.heap.size) (fun y e => by omega) b2.size)
set_option maxRecDepth 100000 in
theorem z7i (W : World) (va vb : Value) (cs : List Cmp) (rs : List Rsc) (hC : zah W va cs) (hQ : zaw W vb rs) (hsC : zbu cs) (hsQ : zbv rs) (h16 : cs.length <= 16) (hck : zak cs rs = []) (most : Nat) (hm : most <= 64) (sd : Int) :
  Calls Tryz.prog 13 #[.agg #[va, vb], .int .i64 (most : Int), .int .i64 sd] W fun e W' => ∃ b gv, e = .returned (.pointer (some ⟨b, 0, none⟩)) /\ Dm W (fun y => W.heap.size <= y /\ y < W'.heap.size) W' b va vb (.slice none 0 0) gv (dw cs most ⟨[], 1, 0, sd, rs.map Rsc.n⟩) /\ Below W.heap.size W W' := by
 obtain ⟨w1, hw1⟩ : ∃ w1, w1 = W.alloc (.cells #[va, vb] 25) := ⟨_, rfl⟩
 have b1 : Below W.heap.size W w1 := by rw [hw1]; exact bAl _ _
 have r1 : w1.heap[W.heap.size]? = some (.cells #[va, vb] 25 (0, 0)) := by rw [hw1]; exact heap_alloc_new W _
 have hz1 : w1.heap.size = W.heap.size + 1 := by rw [hw1]; simp
 have CK := hid (zdd w1 va vb cs rs (hC.later b1) (hQ.later b1) hsC hsQ)
 have hz : (zak cs rs).length = 0 := by rw [hck]; rfl
 rw [hz] at CK
 have h40 : rs.length <= 40 := hsQ.1
 have h40i : (rs.length : Int) <= 40 := by omega
 have hmi : ¬ (64 < (most : Int)) := by omega
 have hm0 : ¬ ((most : Int) < 0) := by omega
 obtain ⟨a', c', rfl, -, -⟩ := id hQ
 obtain ⟨a, cc, rfl, -, -⟩ := id hC
 have x0 : w1.cell? ⟨W.heap.size, 0, none⟩ = some (.slice a cs.length cc) := zaa r1 rfl
 have x1 : w1.cell? ⟨W.heap.size, 1, none⟩ = some (.slice a' rs.length c') := zaa r1 rfl
 have HW1 := hid hw1
 have B1 := hid b1
 have R1 := hid r1
 have H16 := hid h16
 have HC := hid hC
 have HQ := hid hQ
 have HZ1 := hid hz1
 clear hw1 b1 r1 hC hQ hsC hsQ h16 hck hz hz1
 go_enter Tryz.func13, Tryz.ntmps13
 go_upto_region 1 with fail
 rw [<- HW1.out]
 clear HW1
 go_wp2_with fail
 refine CK.out.mono ?_
 rintro e w2 ⟨lv, rfl, ho, hb2⟩
 obtain ⟨la, lc, rfl⟩ := zaf ho
 have q2 := zab hb2 (Nat.le_refl _) R1.out
 have z0 : w2.cell? ⟨W.heap.size, 0, none⟩ = some (.slice a cs.length cc) := zaa q2 rfl
 have z1 : w2.cell? ⟨W.heap.size, 1, none⟩ = some (.slice a' rs.length c') := zaa q2 rfl
 obtain ⟨w3, hw3⟩ : ∃ w3, w3 = w2.alloc (.cells #[.slice a cs.length cc, .slice a' rs.length c', .int .i64 (most : Int), .slice none 0 0, .int .i64 0, .int .i64 1, .int .i64 sd, .slice none 0 0, .slice none 0 0, .bool false] 71) := ⟨_, rfl⟩
 have b3 : Below w2.heap.size w2 w3 := by rw [hw3]; exact bAl _ _
 have hbb : Hid (W.heap.size < w2.heap.size) := hid (by have := hb2.size; have := HZ1.out; show _ < _; omega)
 have N0 : Hid (Nb W w2.heap.size (.slice a cs.length cc) (.slice a' rs.length c') most sd (.slice none 0 0) ((rs.map Rsc.n).take 0) w3) := hid ⟨by rw [hw3]; exact heap_alloc_new w2 _, zab b3 (Nat.le_refl _) q2, World.ownsRow_nil _ _ _ _, (B1.out.trans (hb2.mono B1.out.size)).trans (b3.mono (B1.out.trans (hb2.mono B1.out.size)).size)⟩
 have HW3 := hid hw3
 clear ho hb2 CK q2 x0 x1 b3 hw3
 go_upto_region 4 with fail
 rw [<- HW3.out]
 clear HW3 z0 z1
 go_wp2_with fail
 go_loopg [8] rs.length (fun gh i wr => ∃ (j : Nat) (gv : Value), j <= rs.length /\ gh = rs.length - j /\ i = .int .i64 (j : Int) /\ Hid (Nb W w2.heap.size (.slice a cs.length cc) (.slice a' rs.length c') most sd gv ((rs.map Rsc.n).take j) wr))
 case atStart => exact ⟨0, _, Nat.zero_le _, rfl, rfl, N0.out⟩
 case round =>
  rename World => wr
  obtain ⟨j, gv, hj, rfl, rfl, HN⟩ := hrel
  clear N0
  have z1 : wr.cell? ⟨W.heap.size, 1, none⟩ = some (.slice a' rs.length c') := zaa HN.out.sch rfl
  by_cases hlt : j < rs.length
  ·have hji : (j : Int) < (rs.length : Int) := by omega
   obtain ⟨r, hr⟩ := zal rs j hlt
   obtain ⟨qb, qo, e1, v1⟩ : ∃ qb qo, a' = some ⟨qb, qo, none⟩ /\ wr.cell? ⟨qb, qo + j * 2 + 1, none⟩ = some (.int .i64 r.n) := by
    obtain ⟨a2, c2, e, -, dr⟩ := HQ.out.later HN.out.bel
    obtain ⟨rfl, rfl⟩ : a' = a2 /\ c' = c2 := by simpa using e
    rcases dr with dr | ⟨qb, qo, e, dr⟩
    ·rw [dr] at hlt; simp at hlt
    exact ⟨qb, qo, e, (dr j r hr).2⟩
   subst e1
   have TK : Hid ((rs.map Rsc.n).take (j + 1) = (rs.map Rsc.n).take j ++ [r.n]) := hid (by rw [List.take_add_one, List.getElem?_map, hr]; rfl)
   have hl9 : ((rs.map Rsc.n).take j).length <= 1000 := by
    have := List.length_take_le j (rs.map Rsc.n)
    omega
   have z7 : wr.cell? ⟨w2.heap.size, 7, none⟩ = some gv := zaa HN.out.box rfl
   obtain ⟨ga, gc, rfl⟩ := zaf HN.out.num
   have hnb := HN.out.num
   have hsz := HN.out.bel.size
   have h1 := bAl wr (.cells #[.int .i64 r.n] 3)
   have z7' := At.seen h1 (Nat.le_refl _) z7
   have v1' := At.seen h1 (Nat.le_refl _) v1
   have z1' := At.seen h1 (Nat.le_refl _) z1
   generalize (rs.map Rsc.n).take j = gl at *
   clear hr
   go_upto_region 7 with fail
   go_region_law (first
    | (refine z0f (z := r.n) rfl _ _ rfl hnb hl9 hsz (by first | exact h1 | exact h1.drew) (by first | exact heap_alloc_new _ _) rfl rfl ?_; intro a6 c6 w6 h6; obtain ⟨-, n7, f7⟩ := HN.out.next hbb.out h6.out))
   all_goals
    have N6 := hid (HN.out.next hbb.out h6.out).1
    clear h6 n7 f7 z7 v1 z1 z7' v1' z1' hnb HN h1
    go_wp2_with fail
    go_roundg (rs.length - (j + 1))
    case measure => omega
    case rel => exact ⟨j + 1, _, by omega, rfl, by go_num, by rw [TK.out]; exact N6.out⟩
  have hji : ¬ ((j : Int) < (rs.length : Int)) := by omega
  have e1 : (rs.map Rsc.n).take j = rs.map Rsc.n := by rw [show j = (rs.map Rsc.n).length by rw [List.length_map]; omega]; exact List.take_length
  rw [e1] at HN
  have FIN : Hid (Dm W (fun y => W.heap.size <= y /\ y < wr.heap.size) wr w2.heap.size (.slice a cs.length cc) (.slice a' rs.length c') (.slice none 0 0) gv (dw cs most ⟨[], 1, 0, sd, rs.map Rsc.n⟩)) := hid ⟨HN.out.box, ⟨Nat.le_of_lt hbb.out, (Array.getElem?_eq_some_iff.1 HN.out.box).1⟩, fun y hy => hy, HC.out, HN.out.bel, H16.out, RB.nil _ _, ⟨HN.out.num.lower (Nat.zero_le _), fun y hy => World.ownsRow.lt HN.out.num y hy⟩, by show (0 : Nat) <= 64; decide⟩
  have BB := hid HN.out.bel
  go_wp2_with fail
  go_ret
  first
   | exact ⟨_, gv, rfl, FIN.out, BB.out⟩
   | exact ⟨_, rfl, gv, FIN.out, BB.out⟩
   | exact ⟨gv, FIN.out, BB.out⟩
   | exact ⟨_, rfl, ⟨gv, FIN.out⟩, BB.out⟩
   | exact ⟨w2.heap.size, rfl, ⟨gv, FIN.out⟩, BB.out⟩
end Dw
namespace Dw
open Go.RowKit Go.Shelf Go.Maps
open At (zaa zab)
open Sc (Cmp Rsc zah zaw zbu zbv zak zdd zfg)
open Go.Proofs.YthadfdbkkmmgoaaGreatDoor.Or (ActI zfo)
open Wo (Ed)
set_option maxRecDepth 100000 in
theorem zxb (W : World) (Ad : Nat -> Addr) (hE : Env W Ad) (va vb : Value) (cs : List Cmp) (rs : List Rsc) (hC : zah W va cs) (hQ : zaw W vb rs) (l0 l1 : Int) (av : Value) (xs : List ActI) (hA : zfo W av xs) (hc40 : cs.length <= 40) (hr40 : rs.length <= 40) (hbad : ¬ (zak cs rs = [] /\ 0 <= l0 /\ l0 <= 64)) :
  Calls Tryz.prog 3 #[.agg #[va, vb], .agg #[.int .i64 l0, .int .i64 l1], av] W fun e W' => e = .returned (.bool true) /\ Below W.heap.size W W' := by
 obtain ⟨b0, r0, p0⟩ := Rs.zde W #[va, vb] #[.int .i64 l0, .int .i64 l1] 25 26
 obtain ⟨w0, hw0⟩ : ∃ w0, w0 = (W.alloc (.cells #[va, vb] 25)).alloc (.cells #[.int .i64 l0, .int .i64 l1] 26) := ⟨_, rfl⟩
 rw [<- hw0] at b0 r0 p0
 have AW := hid (Or.zis Ad w0 (hE.later b0).eight)
 have sC : zbu cs := ⟨hc40, trivial⟩
 have sQ : zbv rs := ⟨hr40, trivial⟩
 have ON := hid fun (w : World) (hb : Below W.heap.size W w) => z2q Ad w va vb cs rs (hE.later hb).eight (hC.later hb) (hQ.later hb) sC sQ l0 hbad
 have UN := hid fun (w : World) (hb : Below W.heap.size W w) => ztc w va vb cs rs (hC.later hb) (hQ.later hb) sC sQ (fun e => (zfg e).1) l0
 have CK := hid fun (w : World) (hb : Below W.heap.size W w) => zdd w va vb cs rs (hC.later hb) (hQ.later hb) sC sQ
 have IS := hid fun (w : World) (v : Value) (hb : Below W.heap.size W w) (he : Ed Ad w v 1 1) => Or.z7c (hE.later hb).eight he (by decide) (show 1 ∈ eight by decide)
 have K1 := hid fun (w : World) (hb : Below W.heap.size W w) => (hE.later hb).eight.k1
 obtain ⟨a, c, rfl, -, -⟩ := hC
 obtain ⟨a', c', rfl, -, -⟩ := hQ
 obtain ⟨ca, cc, rfl, -, -⟩ := hA
 have hci : ¬ (40 : Int) < (cs.length : Int) := by omega
 have hri : ¬ (40 : Int) < (rs.length : Int) := by omega
 have CE : Hid (∀ w, Below w0.heap.size w0 w -> w.cell? ⟨W.heap.size, 0, none⟩ = some (.slice a cs.length c) /\ w.cell? ⟨W.heap.size, 1, none⟩ = some (.slice a' rs.length c') /\ w.cell? ⟨W.heap.size + 1, 0, none⟩ = some (.int .i64 l0) /\ w.cell? ⟨W.heap.size + 1, 1, none⟩ = some (.int .i64 l1)) := hid fun w hb => by
  have q := zab hb (Nat.le_refl _) r0
  have q2 := zab hb (Nat.le_refl _) p0
  exact ⟨zaa q rfl, zaa q rfl, zaa q2 rfl, zaa q2 rfl⟩
 have HW0 := hid hw0
 have B0 := hid b0
 have HBAD := hid hbad
 clear hE hw0 b0 r0 p0 hbad hc40 hr40 sC sQ
 go_enter Tryz.func3, Tryz.ntmps3
 go_upto_region 1 with fail
 rw [<- HW0.out]
 go_wp2_with fail
 refine AW.out.mono ?_
 rintro e w1 ⟨rfl, hb1⟩
 have B01 := hid hb1
 have B1 := hid (B0.out.trans (hb1.mono B0.out.size))
 obtain ⟨y0, y1, z0, z1⟩ := CE.out w1 hb1
 have O1 := hid (ON.out w1 B1.out)
 clear AW hb1 HW0 ON
 go_wp2_with fail
 refine O1.out.mono ?_
 rintro e w2 ⟨tt, qq, rfl, hed, hb2⟩
 have HED := hid hed
 have B02 := hid (B01.out.trans (hb2.mono B01.out.size))
 have B2 := hid (B1.out.trans (hb2.mono B1.out.size))
 clear y0 y1 z0 z1
 obtain ⟨y0, y1, z0, z1⟩ := CE.out w2 B02.out
 have U2 := hid (UN.out w2 B2.out)
 clear hed hb2 O1 UN
 go_wp2_with fail
 refine U2.out.mono ?_
 rintro e w3 ⟨-, hn, hb3⟩
 obtain rfl := hn HBAD.out
 have B23 := hid hb3
 have B03 := hid (B02.out.trans (hb3.mono B02.out.size))
 have B3 := hid (B2.out.trans (hb3.mono B2.out.size))
 clear y0 y1 z0 z1
 obtain ⟨y0, y1, z0, z1⟩ := CE.out w3 B03.out
 have C3 := hid (CK.out w3 B3.out)
 clear hn hb3 U2 CK
 go_wp2_with fail
 refine C3.out.mono ?_
 rintro e w4 ⟨lv, rfl, ho, hb4⟩
 obtain ⟨la, lc, rfl⟩ := zaf ho
 have B24 := hid (B23.out.trans (hb4.mono B23.out.size))
 have B4 := hid (B3.out.trans (hb4.mono B3.out.size))
 clear ho hb4 C3 y0 y1 z0 z1 CE
 by_cases hck : zak cs rs = []
 ·have I4 := hid (IS.out w4 _ B4.out ((HED.out hck).later B24.out))
  have k1 := K1.out w4 B4.out
  have hz : (zak cs rs).length = 0 := by rw [hck]; rfl
  rw [hz]
  clear IS hck hz K1
  go_wp2_with fail
  refine I4.out.mono ?_
  rintro e w5 ⟨rfl, hb5⟩
  have B5 := hid (B4.out.trans (hb5.mono B4.out.size))
  clear hb5 I4
  go_wp2_with fail
  go_ret
  exact ⟨rfl, B5.out⟩
 have hz : (0 : Int) < ((zak cs rs).length : Int) := by have := List.length_pos_iff.2 hck; omega
 have k1 := K1.out w4 B4.out
 generalize (zak cs rs).length = n at *
 clear IS hck K1
 go_wp2_with fail
 go_ret
 exact ⟨rfl, B4.out⟩
end Dw
namespace Dw
open Go.RowKit Go.Shelf Go.Maps
open At (bAl zaa zab)
open Sc (Cmp Rsc zah zaw zbu zbv zak zzn zfg)
open Go.Proofs.YthadfdbkkmmgoaaGreatDoor.Or (ActI zfo Fiv runA)
open Wo (Ed Ev)
set_option maxRecDepth 100000 in
theorem zti (W : World) (Ad : Nat -> Addr) (hE : Env W Ad) (va vb : Value) (cs : List Cmp) (rs : List Rsc) (hC : zah W va cs) (hQ : zaw W vb rs) (l0 l1 : Int) (av : Value) (xs : List ActI) (hA : zfo W av xs) (hc40 : cs.length <= 40) (hr40 : rs.length <= 40) (hgood : zak cs rs = [] /\ 0 <= l0 /\ l0 <= 64) :
  Calls Tryz.prog 3 #[.agg #[va, vb], .agg #[.int .i64 l0, .int .i64 l1], av] W fun e W' => e = .returned (.bool true) /\ Below W.heap.size W W' := by
 obtain ⟨b0, r0, p0⟩ := Rs.zde W #[va, vb] #[.int .i64 l0, .int .i64 l1] 25 26
 obtain ⟨w0, hw0⟩ : ∃ w0, w0 = (W.alloc (.cells #[va, vb] 25)).alloc (.cells #[.int .i64 l0, .int .i64 l1] 26) := ⟨_, rfl⟩
 rw [<- hw0] at b0 r0 p0
 obtain ⟨ws, hws, hok, hfit⟩ := zzn hgood.1
 obtain ⟨u, n, hn, hu, hr⟩ := Or.ybj l1 65 (by decide)
 have hr : u.tmod 65 = (n : Int) := hr
 have hni : (n : Int) <= 64 := by omega
 have AW := hid (Or.zis Ad w0 (hE.later b0).eight)
 have sC : zbu cs := ⟨hc40, trivial⟩
 have sQ : zbv rs := ⟨hr40, trivial⟩
 have h16 := (zfg hgood.1).1
 have ON := hid fun (w : World) (hb : Below W.heap.size W w) => Or.zer Ad w va vb cs rs (hE.later hb).eight (hC.later hb) (hQ.later hb) sC sQ hgood.1 h16 l0 hgood.2.1 hgood.2.2
 have UN := hid fun (w : World) (hb : Below W.heap.size W w) => ztc w va vb cs rs (hC.later hb) (hQ.later hb) sC sQ (fun e => (zfg e).1) l0
 have WN := hid fun (w : World) (hb : Below W.heap.size W w) => Wo.zer Ad w va vb cs rs (hE.later hb).eight (hC.later hb) (hQ.later hb) sC sQ hgood.1 ws hws hok hfit n (by omega) 1
 have DN := hid fun (w : World) (hb : Below W.heap.size W w) => z7i w va vb cs rs (hC.later hb) (hQ.later hb) sC sQ h16 hgood.1 n (by omega) 1
 have EV := hid fun (w : World) (hb : Below W.heap.size W w) => hE.later hb
 have HC := hid hC
 have HA := hid hA
 have VBS : Hid (∃ a l c, vb = .slice a l c) := hid (by obtain ⟨a', c', e, -, -⟩ := hQ; exact ⟨_, _, _, e⟩)
 have VAS : Hid (∃ a l c, va = .slice a l c) := hid (by obtain ⟨a', c', e, -, -⟩ := hC; exact ⟨_, _, _, e⟩)
 obtain ⟨a, c, rfl, -, -⟩ := hC
 obtain ⟨a', c', rfl, -, -⟩ := hQ
 obtain ⟨ca, cc, rfl, -, -⟩ := hA
 have hci : ¬ (40 : Int) < (cs.length : Int) := by omega
 have hri : ¬ (40 : Int) < (rs.length : Int) := by omega
 have CE : Hid (∀ w, Below w0.heap.size w0 w -> w.cell? ⟨W.heap.size, 0, none⟩ = some (.slice a cs.length c) /\ w.cell? ⟨W.heap.size, 1, none⟩ = some (.slice a' rs.length c') /\ w.cell? ⟨W.heap.size + 1, 0, none⟩ = some (.int .i64 l0) /\ w.cell? ⟨W.heap.size + 1, 1, none⟩ = some (.int .i64 l1)) := hid fun w hb => by
  have q := zab hb (Nat.le_refl _) r0
  have q2 := zab hb (Nat.le_refl _) p0
  exact ⟨zaa q rfl, zaa q rfl, zaa q2 rfl, zaa q2 rfl⟩
 have HW0 := hid hw0
 have B0 := hid b0
 have HGOOD := hid hgood
 have HWS := hid hws
 have HOK := hid hok
 have HN := hid hn
 clear hE hw0 b0 r0 p0 hgood hc40 hr40 sC sQ hws hok hfit hn h16
 go_enter Tryz.func3, Tryz.ntmps3
 go_upto_region 1 with fail
 rw [<- HW0.out]
 go_wp2_with fail
 refine AW.out.mono ?_
 rintro e w1 ⟨rfl, hb1⟩
 have B01 := hid hb1
 have B1 := hid (B0.out.trans (hb1.mono B0.out.size))
 obtain ⟨y0, y1, z0, z1⟩ := CE.out w1 hb1
 have O1 := hid (ON.out w1 B1.out)
 clear AW hb1 HW0 ON
 go_wp2_with fail
 refine O1.out.mono ?_
 rintro e w2 ⟨ob, kv, H, rfl, ho, hb2⟩
 have HO := hid ho
 have B12 := hid hb2
 have B02 := hid (B01.out.trans (hb2.mono B01.out.size))
 have B2 := hid (B1.out.trans (hb2.mono B1.out.size))
 clear y0 y1 z0 z1
 obtain ⟨y0, y1, z0, z1⟩ := CE.out w2 B02.out
 have U2 := hid (UN.out w2 B2.out)
 clear ho hb2 O1 UN
 go_wp2_with fail
 refine U2.out.mono ?_
 rintro e w3 ⟨hu3, -, hb3⟩
 obtain ⟨ub, rfl, hu4⟩ := hu3 HGOOD.out
 have HU := hid hu4
 have B23 := hid hb3
 have B03 := hid (B02.out.trans (hb3.mono B02.out.size))
 have B3 := hid (B2.out.trans (hb3.mono B2.out.size))
 clear y0 y1 z0 z1
 obtain ⟨y0, y1, z0, z1⟩ := CE.out w3 B03.out
 have W3 := hid (WN.out w3 B3.out)
 clear hu3 hu4 hb3 U2 WN
 go_wp2_with fail
 clear hu hr
 refine W3.out.mono ?_
 rintro e w4 ⟨wb, k, G, rfl, hw4, hk1, hk2, hk3, hb4⟩
 have HW4 := hid hw4
 have B34 := hid hb4
 have B04 := hid (B03.out.trans (hb4.mono B03.out.size))
 have B4 := hid (B3.out.trans (hb4.mono B3.out.size))
 have HK := hid (And.intro hk1 (And.intro hk2 hk3))
 clear y0 y1 z0 z1
 obtain ⟨y0, y1, z0, z1⟩ := CE.out w4 B04.out
 have D4 := hid (DN.out w4 B4.out)
 clear hw4 hb4 W3 DN hk1 hk2 hk3
 go_wp2_with fail
 refine D4.out.mono ?_
 rintro e w5 ⟨db, gv, rfl, hd5, hb5⟩
 have T5 := hid (z7w (k := k) HO.out B12.out HU.out B23.out HW4.out B34.out HK.out.1 (by rw [HK.out.1, HK.out.2.2]; exact hd5) hb5 (HC.out.later B1.out))
 have Q5 : Hid (BQ w1 (w1.heap.size + 1) kv wb ob ub db (.slice a cs.length c) (.slice a' rs.length c') gv k 0 w5) := hid ⟨0, _, _, T5.out, by simp, by simp, by simp, by show (0 : Int) <= 0; decide, by show (0 : Int) <= 0; decide⟩
 have KF : Hid (Kf k (.slice a' rs.length c')) := hid ⟨HW4.out.ok, VBS.out, by rw [HK.out.1, HK.out.2.1]; exact HWS.out, by rw [HK.out.2.1]; exact HOK.out, by rw [HK.out.2.2]; have := HN.out; omega⟩
 have EW : Hid (∀ w, Below w1.heap.size w1 w -> Env w Ad /\ Ev (w1.heap.size + 1) w Ad) := hid fun w hb => ⟨EV.out w (B1.out.trans (hb.mono B1.out.size)), w1, (EV.out w1 B1.out).eight, by omega, hb⟩
 have HA1 := hid (HA.out.later B1.out)
 clear hd5 hb5 D4 T5 CE y0 y1 z0 z1 HO HU HW4 B12 B23 B34 B02 B03 B04 B2 B3 B4 HK HWS HOK HN HGOOD EV HC HA B0 B01
 go_wp2_with fail
 go_loopg [15, 16, 17, 18, 19] 150 (fun gh i _ _ _ _ wr => ∃ q : Nat, q <= 150 /\ gh = 150 - q /\ i = .int .i64 (q : Int) /\ Hid (BQ w1 (w1.heap.size + 1) kv wb ob ub db (.slice a cs.length c) (.slice a' rs.length c') gv k q wr))
 case atStart => exact ⟨0, by omega, rfl, rfl, Q5.out⟩
 case round =>
  clear Q5
  rename World => wr
  obtain ⟨q, hq, rfl, rfl, HF⟩ := hrel
  obtain ⟨t, A, X, hbt, ht, hn, hdr, hf0, hf⟩ := HF.out
  have HBT := hid hbt
  have BW := hid hbt.bel
  clear hbt HF
  by_cases h1 : q < xs.length
  ·have h1i : (q : Int) < (xs.length : Int) := by omega
   by_cases h2 : q < 150
   ·have h2i : (q : Int) < 150 := by omega
    obtain ⟨x, hx⟩ := zal xs q h1
    have hwf : x.x.ok := by
     obtain ⟨_, _, _, q2, _⟩ := HA1.out
     exact q2 x (List.mem_of_getElem? hx)
    obtain ⟨b, o, e1, hcx⟩ : ∃ b o, ca = some ⟨b, o, none⟩ /\ ∀ w, Below w1.heap.size w1 w -> Fiv w b (o + q * 5) x := by
     obtain ⟨a', c', hv, -, hl⟩ := HA1.out
     obtain ⟨rfl, rfl⟩ : ca = a' /\ cc = c' := by simpa using hv
     rcases hl with h | ⟨b, o, h4, h5⟩
     ·rw [h] at h1; simp at h1
     exact ⟨b, o, h4, fun w hb => (h5 q x hx).later hb⟩
    subst e1
    have CX := hid hcx
    have HWF := hid hwf
    obtain ⟨hxc, hxl, hg0, hg1, hd0, hd1⟩ := zvy HBT.out
    obtain ⟨OKA, -, -⟩ := zsi HBT.out
    have HEV := hid (EW.out wr BW.out).2
    obtain ⟨c0, c1, c2, c3, c4⟩ := CX.out wr BW.out
    clear hx hwf hcx
    go_upto_block 2 with fail
    go_cut [16, 17, 18, 19] from 105 to 161 (fun _ _ _ _ wx => Hid (BQ w1 (w1.heap.size + 1) kv wb ob ub db (.slice a cs.length c) (.slice a' rs.length c') gv k (q + 1) wx))
    case first =>
     by_cases hk1 : x.kind = 1
     ·have q1 : (x.kind == 1) = true := by simp [hk1]
      clear hk1
      have AN := zyy (y := x.x) ht hn hdr
      have QN : Hid (∀ w, Bt w1 (w1.heap.size + 1) kv wb ob ub db (.slice a cs.length c) (.slice a' rs.length c') gv k t A (addU X x.x).2 A (addU X x.x).2 w -> BQ w1 (w1.heap.size + 1) kv wb ob ub db (.slice a cs.length c) (.slice a' rs.length c') gv k (q + 1) w) := hid fun w h => ⟨_, _, _, h, AN.1, AN.2.1, AN.2.2, hf0, by omega⟩
      have hX9 : X.L.length < 900 := by omega
      have hX6 : X.dr < 1000000 := by omega
      have PA : Hid (∀ w xd, Bt w1 (w1.heap.size + 1) kv wb ob ub db (.slice a cs.length c) (.slice a' rs.length c') gv k t A X A xd w -> Calls Tryz.prog 15 #[.pointer (some ⟨ob, 0, none⟩), .agg #[.int .i64 x.x.k, .int .i64 x.x.id, .int .u32 (x.x.m : Int), .int .i64 x.x.c]] w fun e w' => ∃ v, e = .returned v /\ Hid (Ed Ad w' v (addU X x.x).1 2) /\ Hid (Bt w1 (w1.heap.size + 1) kv wb ob ub db (.slice a cs.length c) (.slice a' rs.length c') gv k t A (addU X x.x).2 A xd w')) := hid fun w xd h => by
       refine (ybd h (EW.out w h.bel).2 x.x HWF.out hX9 hX6).mono ?_
       rintro e w' ⟨v, rfl, p1, p2⟩
       exact ⟨v, rfl, p1, p2⟩
      have DA : Hid (∀ w xp, Bt w1 (w1.heap.size + 1) kv wb ob ub db (.slice a cs.length c) (.slice a' rs.length c') gv k t A xp A X w -> Calls Tryz.prog 16 #[.pointer (some ⟨ub, 0, none⟩), .agg #[.int .i64 x.x.k, .int .i64 x.x.id, .int .u32 (x.x.m : Int), .int .i64 x.x.c]] w fun e w' => e = .returned (.int .i64 (((addU X x.x).1 : Nat) : Int)) /\ Hid (Bt w1 (w1.heap.size + 1) kv wb ob ub db (.slice a cs.length c) (.slice a' rs.length c') gv k t A xp A (addU X x.x).2 w') /\ Hid (∀ v, Ed Ad w v (addU X x.x).1 2 -> Ed Ad w' v (addU X x.x).1 2)) := hid fun w xp h => by
       obtain ⟨cu, hcu, hcs⟩ := h.ubox VAS.out
       refine (z7r h x.x hX9 ⟨hg0, hg1⟩ ⟨hd0, hd1⟩).mono ?_
       rintro e w' ⟨rfl, p1, p2⟩
       exact ⟨rfl, p1, fun v hv => z7h hv hcu hcs p2⟩
      have NU : Hid (∀ w v, Below w1.heap.size w1 w -> Ed Ad w v (addU X x.x).1 2 -> Calls Tryz.prog 14 #[v] w fun e w' => e = .returned (.int .i64 (((addU X x.x).1 : Nat) : Int)) /\ Below w.heap.size w w') := hid fun w v hb he => zzc (EW.out w hb).1 he (by decide)
      generalize (addU X x.x).1 = K at *
      generalize (addU X x.x).2 = X2 at *
      have hcur := HBT.out
      clear AN HBT
      go_upto_region 22 with fail
      go_region_with (first
       | (go_at_call 15; refine (PA.out _ _ (by first | exact hcur | exact hcur.later (Below.refl _ _).drew | exact hcur.later (Below.refl _ _).drew.drew)).mono ?_; rintro e w6 ⟨v6, rfl, he, hnx⟩; replace hcur := hnx.out; clear hnx; replace he := he.out; obtain ⟨c0, c1, c2, c3, c4⟩ := CX.out w6 hcur.bel)
       | (go_at_call 16; refine (DA.out _ _ (by first | exact hcur | exact hcur.later (Below.refl _ _).drew | exact hcur.later (Below.refl _ _).drew.drew)).mono ?_; rintro e w7 ⟨rfl, hnx, hke⟩; (try replace he := hke.out _ (by first | exact he | exact he.later (Below.refl _ _).drew | exact he.later (Below.refl _ _).drew.drew)); replace hcur := hnx.out; clear hnx hke; obtain ⟨c0, c1, c2, c3, c4⟩ := CX.out w7 hcur.bel)
       | (go_at_call 14; refine (NU.out _ _ (by first | exact hcur.bel | exact (hcur.later (Below.refl _ _).drew).bel | exact (hcur.later (Below.refl _ _).drew.drew).bel) (by first | exact he | exact he.later (Below.refl _ _).drew | exact he.later (Below.refl _ _).drew.drew)).mono ?_; rintro e w8 ⟨rfl, hb8⟩; (first | replace hcur := hcur.later hb8 | replace hcur := (hcur.later (Below.refl _ _).drew).later hb8 | replace hcur := (hcur.later (Below.refl _ _).drew.drew).later hb8); clear he hb8; obtain ⟨c0, c1, c2, c3, c4⟩ := CX.out w8 hcur.bel))
      all_goals
       have F9 := hid (QN.out _ (by first | exact hcur | exact hcur.later (Below.refl _ _).drew))
       clear hcur PA DA NU QN c0 c1 c2 c3 c4
       go_wp2_with fail
       go_meet
       exact F9.out
     have q1 : (x.kind == 1) = false := by simp [hk1]
     clear hk1
     by_cases hk2 : x.kind = 2
     ·have q2 : (x.kind == 2) = true := by simp [hk2]
      clear hk2
      have FL := hid (z3g HBT.out HEV.out (by omega) (by omega))
      have hrn := Or.zxh k A X.L
      have UF := hid fun (w : World) (h : Bt w1 (w1.heap.size + 1) kv wb ob ub db (.slice a cs.length c) (.slice a' rs.length c') gv k (t + X.L.length) (runA k A X.L).a { X with L := [] } A X w) => zwd h KF.out hxc OKA (Co.zaj (by omega) (by omega)) hxl (by omega) (by omega)
      have QN : Hid (∀ w, Bt w1 (w1.heap.size + 1) kv wb ob ub db (.slice a cs.length c) (.slice a' rs.length c') gv k (t + X.L.length) (runA k A X.L).a { X with L := [] } (runA k A X.L).a { X with L := [] } w -> BQ w1 (w1.heap.size + 1) kv wb ob ub db (.slice a cs.length c) (.slice a' rs.length c') gv k (q + 1) w) := hid fun w h => ⟨_, _, _, h, by show t + X.L.length + 0 <= q + 1; omega, by show (runA k A X.L).a.n + ((0 : Nat) : Int) <= _; omega, by show X.dr <= _; omega, by rw [hrn.2.2]; exact hf0, by rw [hrn.2.2]; omega⟩
      have hsum := Or.zid k A X.L
      generalize runA k A X.L = R at *
      obtain ⟨rd, rf, ra⟩ := R
      simp only at FL UF QN hsum
      have nr := yam (rd : Int) (rf : Int)
      go_wp2_with fail
      refine FL.out.mono ?_
      rintro e w6 ⟨rfl, h6⟩
      obtain ⟨w7, hw7⟩ : ∃ w7, w7 = w6.alloc (.cells #[.int .i64 (rd : Int), .int .i64 (rf : Int)] 55) := ⟨_, rfl⟩
      have b7 : Below w6.heap.size w6 w7 := by rw [hw7]; exact bAl _ _
      have r7 : w7.heap[w6.heap.size]? = some (.cells #[.int .i64 (rd : Int), .int .i64 (rf : Int)] 55 (0, 0)) := by rw [hw7]; exact heap_alloc_new w6 _
      have U7 := hid (UF.out w7 (h6.later b7))
      have HW7 := hid hw7
      clear h6 b7 hw7 FL UF c0 c1 c2 c3 c4 hrn hsum
      have R7 := hid r7
      clear r7
      go_upto_region 26 with fail
      rw [<- HW7.out]
      clear HW7
      go_wp2_with fail
      refine U7.out.mono ?_
      rintro e w8 ⟨rfl, h8, hs8⟩
      have r8 := hs8 _ _ R7.out
      have z0 : w8.cell? ⟨w6.heap.size, 0, none⟩ = some (.int .i64 (rd : Int)) := zaa r8 rfl
      have z1 : w8.cell? ⟨w6.heap.size, 1, none⟩ = some (.int .i64 (rf : Int)) := zaa r8 rfl
      have F8 := hid (QN.out _ h8)
      clear h8 hs8 r8 U7 QN R7
      generalize w6.heap.size = e6 at *
      go_wp2_with fail
      go_meet
      exact F8.out
     have q2 : (x.kind == 2) = false := by simp [hk2]
     clear hk2
     by_cases hk3 : x.kind = 3
     ·have q3 : (x.kind == 3) = true := by simp [hk3]
      clear hk3
      have TU := hid (z9k HBT.out)
      have QN : Hid (∀ w, Bt w1 (w1.heap.size + 1) kv wb ob ub db (.slice a cs.length c) (.slice a' rs.length c') gv k t A { X with gv := 0 } A { X with gv := 0 } w -> BQ w1 (w1.heap.size + 1) kv wb ob ub db (.slice a cs.length c) (.slice a' rs.length c') gv k (q + 1) w) := hid fun w h => ⟨_, _, _, h, by show t + X.L.length <= q + 1; omega, by show A.n + (X.L.length : Int) <= _; omega, by show X.dr <= _; omega, hf0, by omega⟩
      go_wp2_with fail
      refine TU.out.mono ?_
      rintro e w6 ⟨rfl, h6⟩
      obtain ⟨r1, f4, g4⟩ := z3m h6
      have F6 := hid (QN.out _ r1)
      clear h6 TU c0 c1 c2 c3 c4 QN r1
      go_wp2_with fail
      go_meet
      exact F6.out
     have q3 : (x.kind == 3) = false := by simp [hk3]
     clear hk3
     have TI := hid (z8n HBT.out HEV.out (by omega))
     have UT : Hid (∀ w, Bt w1 (w1.heap.size + 1) kv wb ob ub db (.slice a cs.length c) (.slice a' rs.length c') gv k t { A with fr := A.fr + 1 } X A X w -> Calls Tryz.prog 21 #[.pointer (some ⟨db, 0, none⟩)] w fun e w' => e = .returned (.int .i64 0) /\ BQ w1 (w1.heap.size + 1) kv wb ob ub db (.slice a cs.length c) (.slice a' rs.length c') gv k (q + 1) w') := hid fun w h => by
      refine (z3r h (by omega) hf0).mono ?_
      rintro e w' ⟨rfl, h'⟩
      exact ⟨rfl, _, _, _, h', by omega, by show A.n + (X.L.length : Int) <= _; omega, by omega, by show (0 : Int) <= A.fr + 1; omega, by show A.fr + 1 <= _; omega⟩
     go_wp2_with fail
     refine TI.out.mono ?_
     rintro e w6 ⟨rfl, h6⟩
     have U6 := hid (UT.out w6 h6)
     clear h6 TI UT c0 c1 c2 c3 c4
     go_wp2_with fail
     refine U6.out.mono ?_
     rintro e w7 ⟨rfl, h7⟩
     have F7 := hid h7
     clear h7 U6
     go_wp2_with fail
     go_meet
     exact F7.out
    case rest =>
     rename World => wx
     clear c0 c1 c2 c3 c4 CX HWF HEV HBT hxc hxl hg0 hg1 hd0 hd1 OKA BW ht hn hdr hf0 hf
     obtain ⟨t, A, X, hbt, ht, hn, hdr, hf0, hf⟩ := hcut.out
     have HBT := hid hbt
     have HF := hid hcut.out
     obtain ⟨hxc, hxl, hg0, hg1, hd0, hd1⟩ := zvy hbt
     clear hbt hcut
     have k0 : Below wx.heap.size wx wx := Below.refl _ _
     have k0d := k0.drew
     obtain ⟨la, lc, lb, le, hcl⟩ := zll HBT.out
     have CL := hid hcl
     have LI : Hid (∀ w, Below wx.heap.size wx w -> Calls Tryz.prog 23 #[.pointer (some ⟨ob, 0, none⟩)] w fun e w' => ∃ va vc, e = .returned (.slice va X.L.length vc) /\ Below wx.heap.size wx w' /\ Hid (∀ w2, Below w'.heap.size w' w2 -> Calls Tryz.prog 22 #[.slice va X.L.length vc, .slice la X.L.length lc] w2 fun e w3 => e = .returned (.bool true) /\ Below wx.heap.size wx w3)) := hid fun w hb => by
      refine (z5r (HBT.out.later hb)).mono ?_
      rintro e w' ⟨va, vc, rfl, q1, q2⟩
      have hb' := hb.trans (q2.mono hb.size)
      refine ⟨va, vc, rfl, hb', fun w2 h2 => ?_⟩
      have hb2 := hb'.trans (h2.mono hb'.size)
      refine (zze w2 _ _ X.L (q1.later h2) (CL.out w2 hb2).2.1 (by omega)).mono ?_
      rintro e w3 ⟨rfl, q3⟩
      exact ⟨rfl, hb2.trans (q3.mono hb2.size)⟩
     have GI : Hid (∀ w, Below wx.heap.size wx w -> Calls Tryz.prog 24 #[.pointer (some ⟨ob, 0, none⟩)] w fun e w' => e = .returned (.int .i64 X.gv) /\ w' = w) := hid fun w hb => z1n (HBT.out.later hb)
     have DR : Hid (∀ w, Below wx.heap.size wx w -> Calls Tryz.prog 25 #[.pointer (some ⟨ob, 0, none⟩)] w fun e w' => e = .returned (.int .i64 X.dr) /\ w' = w) := hid fun w hb => zve (HBT.out.later hb)
     have CO : Hid (∀ w, Below wx.heap.size wx w -> Calls Tryz.prog 26 #[.pointer (some ⟨wb, 0, none⟩)] w fun e w' => e = .returned (.int .i64 (A.L.length : Int)) /\ w' = w) := hid fun w hb => z2i (HBT.out.later hb)
     have SS : Hid (∀ w, Below wx.heap.size wx w -> w.cell? ⟨ub, 3, none⟩ = some (.slice la X.L.length lc) /\ w.cell? ⟨ub, 4, none⟩ = some (.int .i64 X.gv) /\ w.cell? ⟨ub, 5, none⟩ = some (.int .i64 X.dr) /\ w.cell? ⟨db, 3, none⟩ = some (.slice lb A.L.length le)) := hid fun w hb => ⟨(CL.out w hb).1, (CL.out w hb).2.2.1, (CL.out w hb).2.2.2.1, (CL.out w hb).2.2.2.2.1⟩
     obtain ⟨s3, s4, s5, s6⟩ := SS.out wx k0
     have FIN : Hid (∀ w, Below wx.heap.size wx w -> BQ w1 (w1.heap.size + 1) kv wb ob ub db (.slice a cs.length c) (.slice a' rs.length c') gv k (q + 1) w) := hid fun w hb => ⟨t, A, X, HBT.out.later hb, ht, hn, hdr, hf0, hf⟩
     clear HBT HF hcl hxl
     go_upto_region 32 with fail
     go_region_held3 (fun w => w.cell? ⟨ub, 3, none⟩ = some (.slice la X.L.length lc) /\ w.cell? ⟨ub, 4, none⟩ = some (.int .i64 X.gv) /\ w.cell? ⟨ub, 5, none⟩ = some (.int .i64 X.dr) /\ w.cell? ⟨db, 3, none⟩ = some (.slice lb A.L.length le))
      (first | (refine SS.out _ ?_; with_reducible (repeat' (first | assumption | refine Below.drew ?_))) | fail)
      (first
       | (go_at_call 23; refine (LI.out _ (by with_reducible assumption)).mono ?_; rintro e v1 ⟨va, vc, rfl, b1, HS⟩)
       | (go_at_call 22; refine (HS.out _ (by first | exact Below.refl _ _ | exact (Below.refl _ _).drew)).mono ?_; rintro e v2 ⟨rfl, b2⟩)
       | (go_at_call 24; refine (GI.out _ (by with_reducible assumption)).mono ?_; rintro e v3 ⟨rfl, rfl⟩)
       | (go_at_call 25; refine (DR.out _ (by with_reducible assumption)).mono ?_; rintro e v4 ⟨rfl, rfl⟩)
       | (go_at_call 26; refine (CO.out _ (by with_reducible assumption)).mono ?_; rintro e v5 ⟨rfl, rfl⟩)
       | fail)
     all_goals
      have F9 := hid (FIN.out _ (by with_reducible assumption))
      clear LI GI DR CO SS CL s3 s4 s5 s6 FIN
      go_wp2_with fail
      go_roundg (150 - (q + 1))
      case measure => omega
      case rel => exact ⟨q + 1, by omega, rfl, by go_num, F9.out⟩
   have h2i : ¬ (q : Int) < 150 := by omega
   have k0 : Below wr.heap.size wr wr := Below.refl _ _
   have k0d := k0.drew
   obtain ⟨la, lc, lb, le, hcl⟩ := zll HBT.out
   have CL := hid hcl
   clear hcl
   obtain ⟨OKA, hw16, hL64⟩ := zsi HBT.out
   have HXL := hid (z5m HBT.out)
   have HRW : Hid (∀ x ∈ A.L, x.2.length <= 900) := hid fun x hx => by have := OKA.few hw16 x hx; omega
   have VW : Hid (∀ w, Below wr.heap.size wr w -> Calls Tryz.prog 28 #[.pointer (some ⟨wb, 0, none⟩)] w fun e w' => ∃ v, e = .returned v /\ Below wr.heap.size wr w' /\ Hid (BeV w' v A.L)) := hid fun w hb => by
    refine (zza (HBT.out.later hb)).mono ?_
    rintro e w' ⟨v, rfl, q1, q2⟩
    exact ⟨v, rfl, hb.trans (q2.mono hb.size), q1⟩
   have BE : Hid (∀ w v, Below wr.heap.size wr w -> Hid (BeV w v A.L) -> Calls Tryz.prog 27 #[v, .slice lb A.L.length le] w fun e w' => e = .returned (.bool true) /\ Below wr.heap.size wr w') := hid fun w v hb hv => by
    refine (zhq w v _ A.L hv.out (CL.out w hb).2.2.2.2.2 (by omega) HRW.out).mono ?_
    rintro e w' ⟨rfl, q2⟩
    exact ⟨rfl, hb.trans (q2.mono hb.size)⟩
   have SP : Hid (∀ w, Below wr.heap.size wr w -> Calls Tryz.prog 30 #[.pointer (some ⟨wb, 0, none⟩)] w fun e w' => ∃ ba bn bc ra rn rc, e = .returned (.agg #[.int .i64 A.fr, .int .i64 A.n, .int .i64 A.sd, .slice ba bn bc, .slice ra rn rc]) /\ Below wr.heap.size wr w' /\ Below w.heap.size w w' /\ Hid (∀ w2, Below w'.heap.size w' w2 -> BeV w2 (.slice ba bn bc) (Wo.stL k.x.cs A.L) /\ Wo.NumR w2 (.slice ra rn rc) A.gl)) := hid fun w hb => by
    refine (zrp (HBT.out.later hb)).mono ?_
    rintro e w' ⟨ba, bn, bc, ra, rn, rc, rfl, q1, q2, q3⟩
    exact ⟨ba, bn, bc, ra, rn, rc, rfl, hb.trans (q3.mono hb.size), q3, fun w2 h2 => ⟨q1.later h2, q2.later h2⟩⟩
   have SD : Hid (∀ w, Below wr.heap.size wr w -> Calls Tryz.prog 31 #[.pointer (some ⟨db, 0, none⟩)] w fun e w' => ∃ ba bn bc ra rn rc, e = .returned (.agg #[.int .i64 A.fr, .int .i64 A.n, .int .i64 A.sd, .slice ba bn bc, .slice ra rn rc]) /\ Below wr.heap.size wr w' /\ Below w.heap.size w w' /\ Hid (∀ w2, Below w'.heap.size w' w2 -> BeV w2 (.slice ba bn bc) (Wo.stL k.x.cs A.L) /\ Wo.NumR w2 (.slice ra rn rc) A.gl)) := hid fun w hb => by
    obtain ⟨S', lv2, h3, -⟩ := (HBT.out.later hb).docD
    refine (zkh h3 (OKA.few hw16)).mono ?_
    rintro e w' ⟨ba, bn, bc, ra, rn, rc, rfl, q1, q2, q3⟩
    exact ⟨ba, bn, bc, ra, rn, rc, rfl, hb.trans (q3.mono hb.size), q3, fun w2 h2 => ⟨q1.later h2, q2.later h2⟩⟩
   have sL : Hid ((Wo.stL k.x.cs A.L).length <= 1000 /\ ∀ x ∈ Wo.stL k.x.cs A.L, x.2.length <= 900) := hid (by
    refine ⟨by unfold Wo.stL; rw [List.length_map]; omega, fun x hx => ?_⟩
    unfold Wo.stL at hx
    obtain ⟨z, hz, rfl⟩ := List.mem_map.1 hx
    have := List.length_filter_le (Wo.stays k.x.cs) z.2
    have := HRW.out z hz
    show (z.2.filter _).length <= 900
    omega)
   have SM : Hid (∀ w ba bn bc ra rn rc ba' bn' bc' ra' rn' rc', Below wr.heap.size wr w -> (BeV w (.slice ba bn bc) (Wo.stL k.x.cs A.L) /\ Wo.NumR w (.slice ra rn rc) A.gl) -> (BeV w (.slice ba' bn' bc') (Wo.stL k.x.cs A.L) /\ Wo.NumR w (.slice ra' rn' rc') A.gl) -> Calls Tryz.prog 29 #[.agg #[.int .i64 A.fr, .int .i64 A.n, .int .i64 A.sd, .slice ba bn bc, .slice ra rn rc], .agg #[.int .i64 A.fr, .int .i64 A.n, .int .i64 A.sd, .slice ba' bn' bc', .slice ra' rn' rc']] w fun e w' => e = .returned (.bool true) /\ Below wr.heap.size wr w') := hid fun w ba bn bc ra rn rc ba' bn' bc' ra' rn' rc' hb h h' => by
    refine (zkl w A.fr A.n A.sd ba ba' ra ra' bn bc bn' bc' rn rc rn' rc' _ A.gl h.1 h'.1 sL.out.1 sL.out.2 h.2 h'.2 HXL.out).mono ?_
    rintro e w' ⟨rfl, q2⟩
    exact ⟨rfl, hb.trans (q2.mono hb.size)⟩
   have S3 : Hid (∀ w, Below wr.heap.size wr w -> w.cell? ⟨db, 3, none⟩ = some (.slice lb A.L.length le)) := hid fun w hb => (CL.out w hb).2.2.2.2.1
   have s3 := S3.out wr k0
   have BB : Hid (∀ w, Below wr.heap.size wr w -> Below W.heap.size W w) := hid fun w hb => by
    have b2 := BW.out.trans (hb.mono BW.out.size)
    exact B1.out.trans (b2.mono B1.out.size)
   clear HBT OKA CL
   go_upto_region 34 with fail
   go_region_held3 (fun w => w.cell? ⟨db, 3, none⟩ = some (.slice lb A.L.length le))
    (first | (refine S3.out _ ?_; with_reducible (repeat' (first | assumption | refine Below.drew ?_))) | fail)
    (first
     | (go_at_call 28; refine (VW.out _ (by with_reducible assumption)).mono ?_; rintro e v1 ⟨vv, rfl, b1, HV⟩)
     | (go_at_call 27; refine (BE.out _ _ (by with_reducible assumption) HV).mono ?_; rintro e v2 ⟨rfl, b2⟩)
     | (go_at_call 30; refine (SP.out _ (by with_reducible assumption)).mono ?_; rintro e v3 ⟨pa, pn, pc, qa, qn, qc, rfl, b3, b43, HP⟩)
     | (go_at_call 31; refine (SD.out _ (by with_reducible assumption)).mono ?_; rintro e v4 ⟨xa, xn, xc, ya, yn, yc, rfl, b4, b34, HD⟩)
     | (go_at_call 29; refine (SM.out _ _ _ _ _ _ _ _ _ _ _ _ _ (by with_reducible assumption) (HP.out _ (by first | exact Below.refl _ _ | exact b34)) (HD.out _ (by first | exact Below.refl _ _ | exact b43))).mono ?_; rintro e v5 ⟨rfl, b5⟩)
     | fail)
   all_goals
    have F9 := hid (BB.out _ (by with_reducible assumption))
    clear VW BE SP SD SM S3 s3 BB
    go_wp2_with fail
    go_ret
    exact ⟨rfl, F9.out⟩
  have h1i : ¬ (q : Int) < (xs.length : Int) := by omega
  have k0 : Below wr.heap.size wr wr := Below.refl _ _
  have k0d := k0.drew
  obtain ⟨la, lc, lb, le, hcl⟩ := zll HBT.out
  have CL := hid hcl
  clear hcl
  obtain ⟨OKA, hw16, hL64⟩ := zsi HBT.out
  have HXL := hid (z5m HBT.out)
  have HRW : Hid (∀ x ∈ A.L, x.2.length <= 900) := hid fun x hx => by have := OKA.few hw16 x hx; omega
  have VW : Hid (∀ w, Below wr.heap.size wr w -> Calls Tryz.prog 28 #[.pointer (some ⟨wb, 0, none⟩)] w fun e w' => ∃ v, e = .returned v /\ Below wr.heap.size wr w' /\ Hid (BeV w' v A.L)) := hid fun w hb => by
   refine (zza (HBT.out.later hb)).mono ?_
   rintro e w' ⟨v, rfl, q1, q2⟩
   exact ⟨v, rfl, hb.trans (q2.mono hb.size), q1⟩
  have BE : Hid (∀ w v, Below wr.heap.size wr w -> Hid (BeV w v A.L) -> Calls Tryz.prog 27 #[v, .slice lb A.L.length le] w fun e w' => e = .returned (.bool true) /\ Below wr.heap.size wr w') := hid fun w v hb hv => by
   refine (zhq w v _ A.L hv.out (CL.out w hb).2.2.2.2.2 (by omega) HRW.out).mono ?_
   rintro e w' ⟨rfl, q2⟩
   exact ⟨rfl, hb.trans (q2.mono hb.size)⟩
  have SP : Hid (∀ w, Below wr.heap.size wr w -> Calls Tryz.prog 30 #[.pointer (some ⟨wb, 0, none⟩)] w fun e w' => ∃ ba bn bc ra rn rc, e = .returned (.agg #[.int .i64 A.fr, .int .i64 A.n, .int .i64 A.sd, .slice ba bn bc, .slice ra rn rc]) /\ Below wr.heap.size wr w' /\ Below w.heap.size w w' /\ Hid (∀ w2, Below w'.heap.size w' w2 -> BeV w2 (.slice ba bn bc) (Wo.stL k.x.cs A.L) /\ Wo.NumR w2 (.slice ra rn rc) A.gl)) := hid fun w hb => by
   refine (zrp (HBT.out.later hb)).mono ?_
   rintro e w' ⟨ba, bn, bc, ra, rn, rc, rfl, q1, q2, q3⟩
   exact ⟨ba, bn, bc, ra, rn, rc, rfl, hb.trans (q3.mono hb.size), q3, fun w2 h2 => ⟨q1.later h2, q2.later h2⟩⟩
  have SD : Hid (∀ w, Below wr.heap.size wr w -> Calls Tryz.prog 31 #[.pointer (some ⟨db, 0, none⟩)] w fun e w' => ∃ ba bn bc ra rn rc, e = .returned (.agg #[.int .i64 A.fr, .int .i64 A.n, .int .i64 A.sd, .slice ba bn bc, .slice ra rn rc]) /\ Below wr.heap.size wr w' /\ Below w.heap.size w w' /\ Hid (∀ w2, Below w'.heap.size w' w2 -> BeV w2 (.slice ba bn bc) (Wo.stL k.x.cs A.L) /\ Wo.NumR w2 (.slice ra rn rc) A.gl)) := hid fun w hb => by
   obtain ⟨S', lv2, h3, -⟩ := (HBT.out.later hb).docD
   refine (zkh h3 (OKA.few hw16)).mono ?_
   rintro e w' ⟨ba, bn, bc, ra, rn, rc, rfl, q1, q2, q3⟩
   exact ⟨ba, bn, bc, ra, rn, rc, rfl, hb.trans (q3.mono hb.size), q3, fun w2 h2 => ⟨q1.later h2, q2.later h2⟩⟩
  have sL : Hid ((Wo.stL k.x.cs A.L).length <= 1000 /\ ∀ x ∈ Wo.stL k.x.cs A.L, x.2.length <= 900) := hid (by
   refine ⟨by unfold Wo.stL; rw [List.length_map]; omega, fun x hx => ?_⟩
   unfold Wo.stL at hx
   obtain ⟨z, hz, rfl⟩ := List.mem_map.1 hx
   have := List.length_filter_le (Wo.stays k.x.cs) z.2
   have := HRW.out z hz
   show (z.2.filter _).length <= 900
   omega)
  have SM : Hid (∀ w ba bn bc ra rn rc ba' bn' bc' ra' rn' rc', Below wr.heap.size wr w -> (BeV w (.slice ba bn bc) (Wo.stL k.x.cs A.L) /\ Wo.NumR w (.slice ra rn rc) A.gl) -> (BeV w (.slice ba' bn' bc') (Wo.stL k.x.cs A.L) /\ Wo.NumR w (.slice ra' rn' rc') A.gl) -> Calls Tryz.prog 29 #[.agg #[.int .i64 A.fr, .int .i64 A.n, .int .i64 A.sd, .slice ba bn bc, .slice ra rn rc], .agg #[.int .i64 A.fr, .int .i64 A.n, .int .i64 A.sd, .slice ba' bn' bc', .slice ra' rn' rc']] w fun e w' => e = .returned (.bool true) /\ Below wr.heap.size wr w') := hid fun w ba bn bc ra rn rc ba' bn' bc' ra' rn' rc' hb h h' => by
   refine (zkl w A.fr A.n A.sd ba ba' ra ra' bn bc bn' bc' rn rc rn' rc' _ A.gl h.1 h'.1 sL.out.1 sL.out.2 h.2 h'.2 HXL.out).mono ?_
   rintro e w' ⟨rfl, q2⟩
   exact ⟨rfl, hb.trans (q2.mono hb.size)⟩
  have S3 : Hid (∀ w, Below wr.heap.size wr w -> w.cell? ⟨db, 3, none⟩ = some (.slice lb A.L.length le)) := hid fun w hb => (CL.out w hb).2.2.2.2.1
  have s3 := S3.out wr k0
  have BB : Hid (∀ w, Below wr.heap.size wr w -> Below W.heap.size W w) := hid fun w hb => by
   have b2 := BW.out.trans (hb.mono BW.out.size)
   exact B1.out.trans (b2.mono B1.out.size)
  clear HBT OKA CL
  go_upto_region 34 with fail
  go_region_held3 (fun w => w.cell? ⟨db, 3, none⟩ = some (.slice lb A.L.length le))
   (first | (refine S3.out _ ?_; with_reducible (repeat' (first | assumption | refine Below.drew ?_))) | fail)
   (first
    | (go_at_call 28; refine (VW.out _ (by with_reducible assumption)).mono ?_; rintro e v1 ⟨vv, rfl, b1, HV⟩)
    | (go_at_call 27; refine (BE.out _ _ (by with_reducible assumption) HV).mono ?_; rintro e v2 ⟨rfl, b2⟩)
    | (go_at_call 30; refine (SP.out _ (by with_reducible assumption)).mono ?_; rintro e v3 ⟨pa, pn, pc, qa, qn, qc, rfl, b3, b43, HP⟩)
    | (go_at_call 31; refine (SD.out _ (by with_reducible assumption)).mono ?_; rintro e v4 ⟨xa, xn, xc, ya, yn, yc, rfl, b4, b34, HD⟩)
    | (go_at_call 29; refine (SM.out _ _ _ _ _ _ _ _ _ _ _ _ _ (by with_reducible assumption) (HP.out _ (by first | exact Below.refl _ _ | exact b34)) (HD.out _ (by first | exact Below.refl _ _ | exact b43))).mono ?_; rintro e v5 ⟨rfl, b5⟩)
    | fail)
  all_goals
   have F9 := hid (BB.out _ (by with_reducible assumption))
   clear VW BE SP SD SM S3 s3 BB
   go_wp2_with fail
   go_ret
   exact ⟨rfl, F9.out⟩
end Dw
namespace Dw
open Go.RowKit Go.Shelf Go.Maps
open At (zaa zab)
open Sc (Cmp Rsc zah zaw zak)
open Go.Proofs.YthadfdbkkmmgoaaGreatDoor.Or (ActI zfo)
set_option maxRecDepth 100000 in
theorem zxe (W : World) (Ad : Nat -> Addr) (hE : Env W Ad) (va vb : Value) (cs : List Cmp) (rs : List Rsc) (hC : zah W va cs) (hQ : zaw W vb rs) (l0 l1 : Int) (av : Value) (xs : List ActI) (hA : zfo W av xs) :
  Calls Tryz.prog 3 #[.agg #[va, vb], .agg #[.int .i64 l0, .int .i64 l1], av] W fun e W' => e = .returned (.bool true) /\ Below W.heap.size W W' := by
 by_cases hs : cs.length <= 40 /\ rs.length <= 40
 ·by_cases hg : zak cs rs = [] /\ 0 <= l0 /\ l0 <= 64
  ·exact zti W Ad hE va vb cs rs hC hQ l0 l1 av xs hA hs.1 hs.2 hg
  exact zxb W Ad hE va vb cs rs hC hQ l0 l1 av xs hA hs.1 hs.2 hg
 obtain ⟨b0, r0, p0⟩ := Rs.zde W #[va, vb] #[.int .i64 l0, .int .i64 l1] 25 26
 obtain ⟨w0, hw0⟩ : ∃ w0, w0 = (W.alloc (.cells #[va, vb] 25)).alloc (.cells #[.int .i64 l0, .int .i64 l1] 26) := ⟨_, rfl⟩
 rw [<- hw0] at b0 r0 p0
 have AW := hid (Or.zis Ad w0 (hE.later b0).eight)
 obtain ⟨a, c, rfl, -, -⟩ := hC
 obtain ⟨a', c', rfl, -, -⟩ := hQ
 obtain ⟨ca, cc, rfl, -, -⟩ := hA
 have HW0 := hid hw0
 have B0 := hid b0
 have R0 := hid r0
 clear hE hw0 b0 r0 p0
 go_enter Tryz.func3, Tryz.ntmps3
 go_upto_region 1 with fail
 rw [<- HW0.out]
 go_wp2_with fail
 refine AW.out.mono ?_
 rintro e w1 ⟨rfl, hb1⟩
 have r1 := zab hb1 (Nat.le_refl _) R0.out
 have B1 := hid (B0.out.trans (hb1.mono B0.out.size))
 have y0 : w1.cell? ⟨W.heap.size, 0, none⟩ = some (.slice a cs.length c) := zaa r1 rfl
 have y1 : w1.cell? ⟨W.heap.size, 1, none⟩ = some (.slice a' rs.length c') := zaa r1 rfl
 clear AW hb1 r1 HW0 B0 R0
 by_cases hc40 : 40 < cs.length
 ·have hci : (40 : Int) < (cs.length : Int) := by omega
  go_wp2_with fail
  go_ret
  exact ⟨rfl, B1.out⟩
 have hci : ¬ (40 : Int) < (cs.length : Int) := by omega
 have hri : (40 : Int) < (rs.length : Int) := by omega
 go_wp2_with fail
 go_ret
 exact ⟨rfl, B1.out⟩
end Dw
end Go.Proofs.YthadfdbkkmmgoaaGreatDoor
