/- A part of the proof. -/
import Derived.Maps.RangeWalk
import Derived.Deep.Cut
import Derived.Deep.RegionWith
import Derived.Test.YthadfdbkkmmgoaaGreatDoorMab
set_option maxHeartbeats 3200000
namespace Go.Proofs.YthadfdbkkmmgoaaGreatDoor
namespace Bd
open Go.RowKit Go.Shelf Go.Maps
theorem Tryz.laidOut : laidOutB Tryz.prog = true := by kernel_rfl
theorem Tryz.z0n : 144 < Tryz.prog.types.size := of_decide_eq_true (by kernel_rfl)
theorem Tryz.zzw : (match Tryz.prog.underlying 144 with | some (.array _ _) | some (.struct _) => true | _ => false) = true := by rw [Tryz.underlying144]
set_option maxRecDepth 100000 in
theorem zco : Keyed Tryz.prog 144 := Keyed.of_law (deep_law_laid Tryz.laidOut (m := 2) (by omega) Tryz.z0n (by kernel_rfl) Tryz.zzw)
def entV (i g : Int) : Value := .agg #[.int .i64 i, .int .i64 g]
def kl (i g : Int) : Lit := .string (keyBytes [.int .i64 i, .int .i64 g])
def I64 (i : Int) : Prop := (Lit.int .i64 i).wf = true
theorem zst (i g : Int) : WideAt.IsKeyLit (kl i g) := trivial
theorem z0b : Tryz.prog.keyType 144 = true := by kernel_rfl
theorem zou : Tryz.prog.types.size = 365 := by kernel_rfl
theorem z0z : ∃ d, Tryz.prog.types.size + 1 = d + 2 := ⟨364, congrArg (· + 1) zou⟩
theorem zjw : Tryz.prog.cellsOf 144 = 2 := by kernel_rfl
theorem cells3 : Tryz.prog.cellsOf 3 = 1 := by kernel_rfl
theorem zyj (d : Nat) (i : Int) (hi : I64 i) : Tryz.prog.keyLits (d + 1) 3 [.int .i64 i] = some [.int .i64 i] := by
 unfold Program.keyLits
 rw [Tryz.underlying3]
 exact if_pos ⟨rfl, hi⟩
theorem zwq (d : Nat) (i g : Int) (hi : I64 i) (hg : I64 g) : Tryz.prog.keyLits (d + 2) 144 [.int .i64 i, .int .i64 g] = some [.int .i64 i, .int .i64 g] := by
 unfold Program.keyLits
 rw [Tryz.underlying144]
 refine (if_pos ⟨by rw [zjw]; rfl, by kernel_rfl⟩).trans ?_
 simp only [List.mapM_cons, List.mapM_nil, cells3, List.drop_zero, List.drop_succ_cons, List.take_succ_cons, List.take_zero, zyj d i hi, zyj d g hg]
 rfl
theorem zdg (i g : Int) (hi : I64 i) (hg : I64 g) : keyOf Tryz.prog 144 (entV i g) = some (kl i g) := by
 obtain ⟨d, hd⟩ := z0z
 unfold keyOf
 rw [Tryz.underlying144, hd]
 have hf : (entV i g).formed Tryz.prog 144 = true := by
  unfold entV Value.formed
  rw [Tryz.underlying144, zjw]
  rfl
 have hc : (entV i g).cells.toList = [.int .i64 i, .int .i64 g] := rfl
 refine (if_pos (by rw [z0b, hf]; rfl)).trans ?_
 rw [hc, zwq d i g hi hg]
 rfl
theorem zqt {i g i' g' : Int} (h : entV i g = entV i' g') : i = i' /\ g = g' := by
 unfold entV at h
 simpa using h
theorem znv {i g i' g' : Int} (hi : I64 i) (hg : I64 g) (hi' : I64 i') (hg' : I64 g') (h : kl i g = kl i' g') : i = i' /\ g = g' :=
 zqt (zco.inj (zdg i g hi hg) (h ▸ zdg i' g' hi' hg'))
theorem zaj {n : Int} (h0 : -1000000 <= n) (h1 : n <= 2147483648) : I64 n := by
 unfold I64 Lit.wf
 simp [IntKind.min, IntKind.max, IntKind.signed, IntKind.bits]
 omega
theorem zbs : Keyed Tryz.prog 3 := int_keyed Tryz.underlying3
theorem zun (w : World) : (zeroValue 3).run Tryz.prog w = .ok (.int .i64 0) w := by kernel_rfl
theorem zeroE (w : World) : (zeroValue 144).run Tryz.prog w = .ok (entV 0 0) w := by kernel_rfl
theorem zce (i : Int) (h : I64 i) : keyOf Tryz.prog 3 (.int .i64 i) = some (.int .i64 i) := keyOf_int_mk Tryz.underlying3 h
theorem zfl (i : Int) : WideAt.IsKeyLit (.int .i64 i) := trivial
theorem zcl {i j : Int} (h : i ≠ j) : (Lit.int .i64 i) ≠ .int .i64 j := fun e => h (by simpa using e)
abbrev Prs := List (Int × Int × Int)
def who (l : Prs) (id : Int) : Option (Int × Int) := (l.find? fun x => x.1 == id).map (·.2)
def num (l : Prs) (e : Int × Int) : Option Int := (l.find? fun x => x.2 == e).map (·.1)
def ins (p : Int × Int × Int) : Prs -> Prs
 | [] => [p]
 | x :: l => if p.1 < x.1 then p :: x :: l else x :: ins p l
def del (id : Int) (l : Prs) : Prs := l.filter fun x => !(x.1 == id)
structure okP (n : Int) (l : Prs) : Prop where
 rise : l.Pairwise (fun x y => x.1 < y.1)
 one : l.Pairwise (fun x y => x.2 ≠ y.2)
 low : ∀ x ∈ l, 1 <= x.1 /\ x.1 < n
 i64 : ∀ x ∈ l, I64 x.2.1 /\ I64 x.2.2
 next : 1 <= n /\ n <= 1073741825
theorem okP.nil : okP 1 [] := ⟨.nil, .nil, fun x hx => by simp at hx, fun x hx => by simp at hx, by omega⟩
theorem zez {p x : Int × Int × Int} : ∀ {l : Prs}, x ∈ ins p l ↔ x = p \/ x ∈ l
 | [] => by simp [ins]
 | y :: l => by
  unfold ins
  split
  ·simp
  rw [List.mem_cons, zez, List.mem_cons]
  constructor
  ·rintro (h | h | h)
   ·exact .inr (.inl h)
   ·exact .inl h
   exact .inr (.inr h)
  rintro (h | h | h)
  ·exact .inr (.inl h)
  ·exact .inl h
  exact .inr (.inr h)
theorem zmm (p : Int × Int × Int) : ∀ l : Prs, (ins p l).length = l.length + 1
 | [] => rfl
 | y :: l => by
  unfold ins
  split
  ·simp
  simp [zmm p l]
theorem zrr {p : Int × Int × Int} : ∀ {l : Prs}, l.Pairwise (fun x y => x.1 < y.1) -> (∀ x ∈ l, x.1 ≠ p.1) -> (ins p l).Pairwise (fun x y => x.1 < y.1)
 | [], _, _ => by simp [ins]
 | y :: l, h, hn => by
  have h1 := List.pairwise_cons.1 h
  have hy := hn y (List.mem_cons_self ..)
  unfold ins
  split
  ·rename_i hlt
   refine List.pairwise_cons.2 ⟨fun x hx => ?_, h⟩
   rcases List.mem_cons.1 hx with rfl | hx
   ·exact hlt
   have := h1.1 x hx; omega
  rename_i hlt
  refine List.pairwise_cons.2 ⟨fun x hx => ?_, zrr h1.2 fun x hx => hn x (List.mem_cons_of_mem _ hx)⟩
  rcases zez.1 hx with rfl | hx
  ·omega
  exact h1.1 x hx
theorem zox {p : Int × Int × Int} : ∀ {l : Prs}, l.Pairwise (fun x y => x.2 ≠ y.2) -> (∀ x ∈ l, x.2 ≠ p.2) -> (ins p l).Pairwise (fun x y => x.2 ≠ y.2)
 | [], _, _ => by simp [ins]
 | y :: l, h, hn => by
  have h1 := List.pairwise_cons.1 h
  have hy := hn y (List.mem_cons_self ..)
  unfold ins
  split
  ·refine List.pairwise_cons.2 ⟨fun x hx => ?_, h⟩
   exact fun e => hn x hx e.symm
  refine List.pairwise_cons.2 ⟨fun x hx => ?_, zox h1.2 fun x hx => hn x (List.mem_cons_of_mem _ hx)⟩
  rcases zez.1 hx with rfl | hx
  ·exact hy
  exact h1.1 x hx
theorem zif {α : Type} [BEq α] [LawfulBEq α] {l : Prs} (f : Int × Int × Int -> α) (hp : l.Pairwise (fun x y => f x ≠ f y)) (a : α) (x : Int × Int × Int) : l.find? (fun y => f y == a) = some x ↔ x ∈ l /\ f x = a := by
 induction l with
 | nil => simp
 | cons y l ih =>
  have h1 := List.pairwise_cons.1 hp
  rw [List.find?_cons]
  by_cases e : f y = a
  ·have : (f y == a) = true := by simpa using e
   rw [this]
   simp only [Option.some.injEq, List.mem_cons]
   constructor
   ·rintro rfl; exact ⟨.inl rfl, e⟩
   rintro ⟨rfl | hx, h2⟩
   ·rfl
   exact absurd (e.trans h2.symm) (h1.1 x hx)
  have : (f y == a) = false := by simpa using e
  rw [this]
  simp only [List.mem_cons]
  rw [ih h1.2]
  constructor
  ·rintro ⟨h2, h3⟩; exact ⟨.inr h2, h3⟩
  rintro ⟨rfl | hx, h2⟩
  ·exact absurd h2 e
  exact ⟨hx, h2⟩
section
variable {n : Int} {l : Prs}
theorem okP.who (h : okP n l) (id : Int) (e : Int × Int) : Bd.who l id = some e ↔ (id, e) ∈ l := by
 unfold Bd.who
 rw [Option.map_eq_some_iff]
 constructor
 ·rintro ⟨x, hx, rfl⟩
  obtain ⟨h1, rfl⟩ := (zif (fun x => x.1) (h.rise.imp fun q e => by omega) id x).1 hx
  exact h1
 intro h1
 exact ⟨(id, e), (zif (fun x => x.1) (h.rise.imp fun q e => by omega) id (id, e)).2 ⟨h1, rfl⟩, rfl⟩
theorem okP.num (h : okP n l) (id : Int) (e : Int × Int) : Bd.num l e = some id ↔ (id, e) ∈ l := by
 unfold Bd.num
 rw [Option.map_eq_some_iff]
 constructor
 ·rintro ⟨x, hx, rfl⟩
  obtain ⟨h1, rfl⟩ := (zif (fun x => x.2) h.one e x).1 hx
  exact h1
 intro h1
 exact ⟨(id, e), (zif (fun x => x.2) h.one e (id, e)).2 ⟨h1, rfl⟩, rfl⟩
theorem okP.add (h : okP n l) {m : Int} (hm : n <= m /\ m <= 1073741825) {id i g : Int} (hid : 1 <= id /\ id < m) (hi : I64 i) (hg : I64 g) (h1 : Bd.who l id = none) (h2 : Bd.num l (i, g) = none) : okP m (ins (id, i, g) l) where
 rise := zrr h.rise fun x hx e => by
  have e : x.1 = id := e
  have := (h.who id x.2).2 (by rw [<- e]; exact hx)
  rw [h1] at this
  cases this
 one := zox h.one fun x hx e => by
  have := (h.num x.1 (i, g)).2 (by have : x.2 = (i, g) := e; rw [<- this]; exact hx)
  rw [h2] at this
  cases this
 low := fun x hx => by
  rcases zez.1 hx with rfl | hx
  ·exact hid
  have := h.low x hx; omega
 i64 := fun x hx => by
  rcases zez.1 hx with rfl | hx
  ·exact ⟨hi, hg⟩
  exact h.i64 x hx
 next := by have := h.next; omega
theorem okP.del (h : okP n l) (id : Int) : okP n (Bd.del id l) where
 rise := h.rise.filter _
 one := h.one.filter _
 low := fun x hx => h.low x (List.mem_filter.1 hx).1
 i64 := fun x hx => h.i64 x (List.mem_filter.1 hx).1
 next := h.next
theorem zoy {id : Int} {x : Int × Int × Int} : x ∈ Bd.del id l ↔ x ∈ l /\ x.1 ≠ id := by
 unfold Bd.del
 rw [List.mem_filter]
 simp
theorem zmj {α : Type} {a b : Option α} (h : ∀ x, a = some x ↔ b = some x) : a = b := by
 cases a with
 | none =>
  cases b with
  | none => rfl
  | some y => exact absurd ((h y).2 rfl) (by simp)
 | some x => exact ((h x).1 rfl).symm
theorem okP.z6e (h : okP n l) {m id i g : Int} (hk : okP m (ins (id, i, g) l)) (h1 : Bd.who l id = none) (id' : Int) : Bd.who (ins (id, i, g) l) id' = if id' = id then some (i, g) else Bd.who l id' := by
 refine zmj fun x => ?_
 rw [hk.who, zez]
 by_cases e : id' = id
 ·subst e
  rw [if_pos rfl]
  constructor
  ·rintro (h2 | h2)
   ·simp only [Prod.mk.injEq, true_and] at h2
    rw [h2]
   have := (h.who id' x).2 h2
   rw [h1] at this
   cases this
  intro h2
  obtain rfl : (i, g) = x := by simpa using h2
  exact .inl rfl
 rw [if_neg e, h.who]
 constructor
 ·rintro (h2 | h2)
  ·simp only [Prod.mk.injEq] at h2
   exact absurd h2.1 e
  exact h2
 exact .inr
theorem okP.z6x (h : okP n l) {m id i g : Int} (hk : okP m (ins (id, i, g) l)) (h1 : Bd.num l (i, g) = none) (e' : Int × Int) : Bd.num (ins (id, i, g) l) e' = if e' = (i, g) then some id else Bd.num l e' := by
 refine zmj fun x => ?_
 rw [hk.num, zez]
 by_cases e : e' = (i, g)
 ·subst e
  rw [if_pos rfl]
  constructor
  ·rintro (h2 | h2)
   ·simp only [Prod.mk.injEq, and_true] at h2
    rw [h2]
   have := (h.num x (i, g)).2 h2
   rw [h1] at this
   cases this
  intro h2
  obtain rfl : id = x := by simpa using h2
  exact .inl rfl
 rw [if_neg e, h.num]
 constructor
 ·rintro (h2 | h2)
  ·simp only [Prod.mk.injEq] at h2
   exact absurd h2.2 e
  exact h2
 exact .inr
theorem okP.z8m (h : okP n l) (id id' : Int) : Bd.who (Bd.del id l) id' = if id' = id then none else Bd.who l id' := by
 refine zmj fun x => ?_
 rw [(h.del id).who, zoy]
 by_cases e : id' = id
 ·rw [if_pos e]
  simp [e]
 rw [if_neg e, h.who]
 simp [e]
theorem okP.z9l (h : okP n l) {id : Int} {e : Int × Int} (hw : Bd.who l id = some e) (e' : Int × Int) : Bd.num (Bd.del id l) e' = if e' = e then none else Bd.num l e' := by
 have hm := (h.who id e).1 hw
 refine zmj fun x => ?_
 rw [(h.del id).num, zoy]
 by_cases q : e' = e
 ·rw [if_pos q]
  subst q
  constructor
  ·rintro ⟨h1, h2⟩
   have e1 := (h.num x e').2 h1
   have e2 := (h.num id e').2 hm
   rw [e1] at e2
   exact absurd (by simpa using e2) h2
  intro h1; cases h1
 rw [if_neg q, h.num]
 constructor
 ·exact fun h1 => h1.1
 intro h1
 refine ⟨h1, fun h2 => q ?_⟩
 have h2 : x = id := h2
 subst h2
 have e1 := (h.who x e').2 h1
 rw [hw] at e1
 simpa using e1.symm
theorem zqj (h : okP n l) {id : Int} {e : Int × Int} (hw : Bd.who l id = some e) : (Bd.del id l).length + 1 = l.length := by
 have hm := (h.who id e).1 hw
 have hp := h.rise
 clear hw h
 induction l with
 | nil => simp at hm
 | cons y l ih =>
  have h1 := List.pairwise_cons.1 hp
  unfold Bd.del
  rcases List.mem_cons.1 hm with rfl | hm
  ·have : l.filter (fun x => !(x.1 == id)) = l := List.filter_eq_self.2 fun x hx => by
    have := h1.1 x hx
    simp
    omega
   simp [this]
  have := h1.1 _ hm
  have i2 := ih hm h1.2
  unfold Bd.del at i2
  have this : y.1 < id := this
  have e1 : (!(y.1 == id)) = true := by simp; omega
  simp only [List.filter_cons, e1, if_true, List.length_cons]
  omega
theorem okP.few (h : okP n l) : l.length <= 1073741824 := by
 have hn := h.next
 have hnd : (l.map fun x => x.1.toNat).Nodup := by
  rw [List.Nodup, List.pairwise_map]
  refine List.Pairwise.imp_of_mem (fun {x y} hx hy q e => ?_) h.rise
  have := (h.low x hx).1
  omega
 have := hnd.length_le_of_subset (l₂ := List.range' 1 1073741824) fun x hx => by
  obtain ⟨y, hy, rfl⟩ := List.mem_map.1 hx
  have := h.low y hy
  rw [List.mem_range'_1]
  omega
 simpa using this
end
end Bd
namespace Co
open Go.RowKit Go.Shelf Go.Maps
theorem zbs : Keyed Tryz.prog 3 := int_keyed Tryz.underlying3
theorem zun (w : World) : (zeroValue 3).run Tryz.prog w = .ok (.int .i64 0) w := by kernel_rfl
def I64 (i : Int) : Prop := (Lit.int .i64 i).wf = true
theorem zce (i : Int) (h : I64 i) : keyOf Tryz.prog 3 (.int .i64 i) = some (.int .i64 i) := keyOf_int_mk Tryz.underlying3 h
theorem zaj {n : Int} (h0 : -1000000 <= n) (h1 : n <= 1000000) : I64 n := by
 unfold I64 Lit.wf
 simp [IntKind.min, IntKind.max, IntKind.signed, IntKind.bits]
 omega
def vI (n : Int) : Value := .int .i64 n
structure Pt where
 a : Int
 b : Int
 c : Int
 d : Int
 t : Int
def Pt.cs (p : Pt) : List Int := [p.a, p.b, p.c, p.d]
def Pt.row (w : Nat) (p : Pt) : List Value := (p.cs.take w).map vI
def Pt.fitB (w : Nat) (p : Pt) : Bool := (p.cs.drop w).all (· == 0)
def Pt.val (comp : Int) (p : Pt) : Value := .agg #[.int .i64 comp, .int .i64 p.a, .int .i64 p.b, .int .i64 p.c, .int .i64 p.d, .int .i64 p.t]
def Pt.arr (comp : Int) (p : Pt) : Array Value := #[.int .i64 comp, .int .i64 p.a, .int .i64 p.b, .int .i64 p.c, .int .i64 p.d, .int .i64 p.t]
theorem Pt.zcb {w : Nat} (p : Pt) (h : w <= 4) : (p.row w).length = w := by simp [Pt.row, Pt.cs]; omega
theorem four {w : Nat} (h0 : 1 <= w) (h : w <= 4) : w = 1 \/ w = 2 \/ w = 3 \/ w = 4 := by omega
theorem Pt.filled {w : Nat} (p : Pt) (h0 : 1 <= w) (h : w <= 4) (hf : p.fitB w = true) (comp : Int) :
  ((#[.int .i64 comp, .int .i64 0, .int .i64 0, .int .i64 0, .int .i64 0, .int .i64 p.t] : Array Value).toList.take 1 ++ p.row w ++ (#[.int .i64 comp, .int .i64 0, .int .i64 0, .int .i64 0, .int .i64 0, .int .i64 p.t] : Array Value).toList.drop (1 + (p.row w).length)).toArray = p.arr comp := by
 obtain ⟨a, b, c, d, t⟩ := p
 rcases four h0 h with rfl | rfl | rfl | rfl
 all_goals
  simp [Pt.fitB, Pt.cs] at hf
  simp [Pt.row, Pt.cs, Pt.arr, vI, hf]
def flat (w : Nat) (l : List Pt) : List Value := l.flatMap (Pt.row w)
theorem znq (w : Nat) (l : List Pt) (p : Pt) : flat w (l ++ [p]) = flat w l ++ p.row w := by simp [flat]
theorem zey (w : Nat) (l : List Pt) (p : Pt) : flat w (p :: l) = p.row w ++ flat w l := by simp [flat]
theorem z2y {w : Nat} (h : w <= 4) (l : List Pt) : (flat w l).length = l.length * w := by
 induction l with
 | nil => simp [flat]
 | cons p l ih => rw [zey, List.length_append, ih, p.zcb h, List.length_cons, Nat.succ_mul]; omega
theorem zob {w : Nat} (h : w <= 4) (l : List Pt) (m : Nat) (hm : m <= l.length) : (flat w l).take (m * w) = flat w (l.take m) := by
 induction l generalizing m with
 | nil => simp at hm; subst hm; simp [flat]
 | cons p l ih =>
  cases m with
  | zero => simp [flat]
  | succ m =>
   rw [List.take_succ_cons, zey, zey, Nat.succ_mul, show m * w + w = (p.row w).length + m * w by rw [p.zcb h]; omega, List.take_length_add_append, ih m (by simpa using hm)]
theorem zns {w : Nat} (h : w <= 4) (l : List Pt) (m : Nat) (hm : m <= l.length) : (flat w l).drop (m * w) = flat w (l.drop m) := by
 induction l generalizing m with
 | nil => simp at hm; subst hm; simp [flat]
 | cons p l ih =>
  cases m with
  | zero => simp [flat]
  | succ m =>
   rw [List.drop_succ_cons, zey, Nat.succ_mul, show m * w + w = (p.row w).length + m * w by rw [p.zcb h]; omega, List.drop_length_add_append, ih m (by simpa using hm)]
theorem z6y {w : Nat} (h : w <= 4) {l : List Pt} {n : Nat} {p : Pt} (hn : l[n]? = some p) {j : Nat} (hj : j < w) : (flat w l)[n * w + j]? = (p.row w)[j]? := by
 obtain ⟨hl, rfl⟩ := List.getElem?_eq_some_iff.1 hn
 have e := zns h l n (by omega)
 rw [<- List.getElem?_drop, e, List.drop_eq_getElem_cons hl, zey, List.getElem?_append_left (by rw [Pt.zcb _ h]; exact hj)]
theorem zpq {w : Nat} (h : w <= 4) {l : List Pt} {n : Nat} (hn : n < l.length) (p : Pt) : (flat w l).take (n * w) ++ p.row w ++ (flat w l).drop (n * w + w) = flat w (l.set n p) := by
 rw [zob h l n (by omega), show n * w + w = (n + 1) * w by rw [Nat.succ_mul], zns h l (n + 1) (by omega), <- znq, List.set_eq_take_append_cons_drop, if_pos hn]
 simp [flat]
theorem row_one (w : Nat) (p : Pt) : ∀ u ∈ p.row w, u.oneCell' = true := by
 intro u hu
 simp only [Pt.row, List.mem_map] at hu
 obtain ⟨x, _, rfl⟩ := hu
 rfl
def rowAt (l : List Pt) (i : Int) : Option Pt := if 0 <= i then l[i.toNat]? else none
theorem zdt (l : List Pt) (n : Nat) : rowAt l (n : Int) = l[n]? := by simp [rowAt]
def zem (l : List Pt) (i : Int) : Int := match rowAt l i with | some p => p.t | none => 0
def Holds (D : DataW Unit) (l : List Pt) : Prop :=
 (∀ i, I64 i -> Maps.has D (.int .i64 i) = (rowAt l i).isSome /\ D.atKey (.int .i64 i) (.lit (.int .i64 0)) = .lit (.int .i64 (zem l i))) /\ Maps.size D = l.length
theorem zfl (i : Int) : WideAt.IsKeyLit (.int .i64 i) := trivial
theorem zcl {i j : Int} (h : i ≠ j) : (Lit.int .i64 i) ≠ .int .i64 j := fun e => h (by simpa using e)
theorem zuz (l : List Pt) (p : Pt) (i : Int) : rowAt (l ++ [p]) i = if i = (l.length : Int) then some p else rowAt l i := by
 unfold rowAt
 by_cases h0 : 0 <= i
 ·rw [if_pos h0, if_pos h0]
  by_cases h1 : i = (l.length : Int)
  ·rw [if_pos h1]; subst h1; simp
  rw [if_neg h1, List.getElem?_append]
  split
  ·rfl
  rename_i h2
  rw [List.getElem?_eq_none (by simp; omega), List.getElem?_eq_none (by omega)]
 rw [if_neg h0, if_neg h0, if_neg (by omega)]
theorem rowAt_set (l : List Pt) (n : Nat) (p : Pt) (h : n < l.length) (i : Int) : rowAt (l.set n p) i = if i = (n : Int) then some p else rowAt l i := by
 unfold rowAt
 by_cases h0 : 0 <= i
 ·rw [if_pos h0, if_pos h0]
  by_cases h1 : i = (n : Int)
  ·rw [if_pos h1]; subst h1; simp [h]
  rw [if_neg h1, List.getElem?_set_ne (by omega)]
 rw [if_neg h0, if_neg h0, if_neg (by omega)]
theorem ztt (l : List Pt) (i : Int) : rowAt l.dropLast i = if i = (l.length : Int) - 1 then none else rowAt l i := by
 unfold rowAt
 by_cases h0 : 0 <= i
 ·rw [if_pos h0, if_pos h0]
  by_cases h1 : i = (l.length : Int) - 1
  ·rw [if_pos h1]; exact List.getElem?_eq_none (by simp; omega)
  rw [if_neg h1, List.getElem?_dropLast]
  split
  ·rfl
  exact (List.getElem?_eq_none (by omega)).symm
 rw [if_neg h0, if_neg h0]; split <;> rfl
theorem Holds.snoc {D : DataW Unit} {l : List Pt} (hD : Tidy D) (h : Holds D l) (p : Pt) (hn : I64 (l.length : Int)) : Holds (D.put (.int .i64 (l.length : Int)) (.lit (.int .i64 p.t))) (l ++ [p]) := by
 refine ⟨fun i hi => ?_, ?_⟩
 ·unfold zem
  rw [zuz]
  by_cases e : i = (l.length : Int)
  ·subst e
   rw [if_pos rfl]
   exact ⟨Maps.has_put_same hD.isMap (zfl _) _, Maps.atKey_put_same hD.isMap (zfl _) _ _⟩
  rw [if_neg e, Maps.has_put_other (zcl e), Maps.atKey_put_other (zcl e)]
  exact h.1 i hi
 rw [Maps.size_put hD, (h.1 _ hn).1, zdt, h.2]
 simp
theorem Holds.set {D : DataW Unit} {l : List Pt} (hD : Tidy D) (h : Holds D l) {n : Nat} (hl : n < l.length) (p : Pt) (hn : I64 (n : Int)) : Holds (D.put (.int .i64 (n : Int)) (.lit (.int .i64 p.t))) (l.set n p) := by
 refine ⟨fun i hi => ?_, ?_⟩
 ·unfold zem
  rw [rowAt_set l n p hl]
  by_cases e : i = (n : Int)
  ·subst e
   rw [if_pos rfl]
   exact ⟨Maps.has_put_same hD.isMap (zfl _) _, Maps.atKey_put_same hD.isMap (zfl _) _ _⟩
  rw [if_neg e, Maps.has_put_other (zcl e), Maps.atKey_put_other (zcl e)]
  exact h.1 i hi
 rw [Maps.size_put hD, (h.1 _ hn).1, zdt, h.2, List.getElem?_eq_getElem hl]
 simp
theorem Holds.drop {D : DataW Unit} {l : List Pt} (hD : Tidy D) (h : Holds D l) (h0 : 0 < l.length) (hn : I64 ((l.length : Int) - 1)) : Holds (D.del (.int .i64 ((l.length : Int) - 1))) l.dropLast := by
 refine ⟨fun i hi => ?_, ?_⟩
 ·unfold zem
  rw [ztt]
  by_cases e : i = (l.length : Int) - 1
  ·subst e
   rw [if_pos rfl]
   exact ⟨Maps.has_del_same, Maps.atKey_del_same _⟩
  rw [if_neg e, Maps.has_del_other (zcl e), Maps.atKey_del_other (zcl e)]
  exact h.1 i hi
 have := Maps.size_del (k := .int .i64 ((l.length : Int) - 1)) hD
 have e : rowAt l ((l.length : Int) - 1) = l[l.length - 1]? := by
  rw [<- zdt]; congr 1; omega
 rw [(h.1 _ hn).1, e, List.getElem?_eq_getElem (by omega), h.2] at this
 simp at this ⊢
 omega
theorem zcf {W : World} {mb n : Nat} {D : DataW Unit} (h : W.ownsMap Tryz.prog 3 (plainElem Tryz.prog 3) mb n D) {m : Nat} (hm : Maps.size D = m) : W.ownsMap Tryz.prog 3 (plainElem Tryz.prog 3) mb m D := by
 obtain ⟨es, clock, hb, F, _, rfl⟩ := h
 refine ⟨es, clock, hb, F, ?_, rfl⟩
 rw [<- hm]
 simp [Maps.size, length_sorted]
theorem zie {W : World} {mb n : Nat} {D : DataW Unit} {l : List Pt} (h : W.ownsMap Tryz.prog 3 (plainElem Tryz.prog 3) mb n D) (hH : Holds D l) (i : Int) (hi : I64 i) :
  (Instr.lookup 272 (.map (some mb)) (.int .i64 i) true).run Tryz.prog W = .ok (.tuple #[.int .i64 (zem l i), .bool (rowAt l i).isSome]) W := by
 obtain ⟨v, ps, hr, hv⟩ := h.look_ok zbs Tryz.underlying272 (zun W) (plainElem_int Tryz.underlying3 (by decide)) (zce i hi)
 obtain ⟨a, rfl, e, _⟩ := plainElem_int_inv Tryz.underlying3 hv
 rw [(hH.1 i hi).2] at e
 simp only [Prod.mk.injEq, DataW.lit.injEq, Lit.int.injEq, true_and] at e
 rw [hr, (hH.1 i hi).1, e.1]
theorem zsv {W : World} {mb n : Nat} {D : DataW Unit} {l : List Pt} (h : W.ownsMap Tryz.prog 3 (plainElem Tryz.prog 3) mb n D) (hH : Holds D l) (i : Int) (hi : I64 i) :
  (Instr.lookup 272 (.map (some mb)) (.int .i64 i) false).run Tryz.prog W = .ok (.int .i64 (zem l i)) W := by
 obtain ⟨c, hr, e, _⟩ := h.lookup_int zbs Tryz.underlying272 Tryz.underlying3 (zun W) (zce i hi)
 rw [(hH.1 i hi).2] at e
 simp only [DataW.lit.injEq, Lit.int.injEq, true_and] at e
 rw [hr, e]
end Co
namespace Or
open Go.RowKit Go.Shelf Go.Maps
open At (St)
structure Od where
 k : Int
 id : Int
 m : Nat
 c : Int
def Od.arr (p : Od) : Array Value := #[.int .i64 p.k, .int .i64 p.id, .int .u32 (p.m : Int), .int .i64 p.c]
structure Od.ok (p : Od) : Prop where
 id : Bd.I64 p.id
 c : Co.I64 p.c
 m : p.m < 4294967296
def zbw (l : List Od) : List Value := l.flatMap fun p => p.arr.toList
theorem zio (l : List Od) (p : Od) : zbw (l ++ [p]) = zbw l ++ p.arr.toList := by simp [zbw]
theorem zxq : ∀ (l : List Od) (j : Nat) (p : Od), l[j]? = some p -> ∀ i, i < 4 -> (zbw l)[j * 4 + i]? = p.arr[i]? := by
 intro l
 induction l with
 | nil => intro j p h; simp at h
 | cons x l ih =>
  intro j p h i hi
  have e : zbw (x :: l) = x.arr.toList ++ zbw l := by simp [zbw]
  rw [e]
  cases j with
  | zero =>
   simp at h
   subst h
   rw [List.getElem?_append_left (by simp [Od.arr]; omega)]
   simp
  | succ j =>
   have h2 := ih j p (by simpa using h) i hi
   rw [List.getElem?_append_right (by simp [Od.arr]; omega), <- h2]
   congr 1
   simp [Od.arr]
   omega
theorem zea (l : List Od) : (zbw l).length = l.length * 4 := by
 induction l with
 | nil => rfl
 | cons x l ih => rw [zbw, List.flatMap_cons, List.length_append]; unfold zbw at ih; rw [ih, List.length_cons]; simp [Od.arr]; omega
theorem ziu : (Tryz.prog.info? 48).map (fun i => (i.zero, i.size, i.bytes)) = some (some (.agg #[.int .i64 0, .int .i64 0, .int .u32 0, .int .i64 0]), 4, 32) := by kernel_rfl
def Ods (B : Nat) (W : World) (v : Value) (l : List Od) : Prop := W.ownsRow B 48 4 v l.length (zbw l)
section
variable {B B' : Nat} {W W' : World} {v : Value} {l : List Od}
theorem Ods.slice (h : Ods B W v l) : ∃ a c, v = .slice a l.length c := zaf h
theorem Ods.kept {T : Nat -> Prop} (h : Ods B W v l) (hs : St T W W') (hn : ∀ x, v.ownBlock = some x -> ¬ T x) : Ods B W' v l := by
 refine ⟨h.1, h.2.elim .inl fun ⟨g, cap, cur, h1, h2, h3, h4⟩ => .inr ⟨g, cap, cur, h1, h2, ?_, h4⟩⟩
 exact hs.at h3 (hn g (by rw [h1]; rfl))
theorem Ods.later (h : Ods B W v l) (hb : Below W.heap.size W W') : Ods B W' v l := h.kept (T := fun _ => False) (St.of_below hb) fun _ _ q => q
theorem Ods.lt (h : Ods B W v l) (k : Nat) (hk : v.ownBlock = some k) : B <= k /\ k < W.heap.size := World.ownsRow.lt h k hk
theorem Ods.lower (h : Ods B W v l) (hB : B' <= B) : Ods B' W v l :=
 ⟨h.1, h.2.elim .inl fun ⟨g, cap, cur, h1, h2, h3⟩ => .inr ⟨g, cap, cur, h1, by omega, h3⟩⟩
structure Fou (W : World) (b o : Nat) (p : Od) : Prop where
 c0 : W.cell? ⟨b, o, none⟩ = some (.int .i64 p.k)
 c1 : W.cell? ⟨b, o + 1, none⟩ = some (.int .i64 p.id)
 c2 : W.cell? ⟨b, o + 2, none⟩ = some (.int .u32 (p.m : Int))
 c3 : W.cell? ⟨b, o + 3, none⟩ = some (.int .i64 p.c)
theorem Ods.at {a : Option Addr} {n c : Nat} (h : Ods B W (.slice a n c) l) {j : Nat} {p : Od} (hj : l[j]? = some p) : ∃ g, a = some ⟨g, 0, none⟩ /\ Fou W g (j * 4) p := by
 have hlt := (List.getElem?_eq_some_iff.1 hj).1
 obtain ⟨g, cap', e, h1, h2⟩ := World.ownsRow.form h (by omega)
 have e' : a = some ⟨g, 0, none⟩ /\ n = l.length /\ c = cap' := by simpa using e
 obtain ⟨rfl, rfl, rfl⟩ := e'
 have A := zxq l j p hj
 have C : ∀ i, i < 4 -> W.cell? ⟨g, j * 4 + i, none⟩ = p.arr[i]? := fun i hi => (World.ownsRow.cellAt h (j * 4 + i) (by omega)).trans (A i hi)
 exact ⟨g, rfl, C 0 (by decide), C 1 (by decide), C 2 (by decide), C 3 (by decide)⟩
theorem zln (W : World) : Ods W.heap.size (W.alloc (.cells #[] 48)) (.slice (some ⟨W.heap.size, 0, none⟩) 0 0) [] :=
 World.ownsRow_lit (base := W.heap.size) (e := 48) (size := 4) W #[] 0 (Nat.le_refl _) (Nat.zero_le _) rfl
theorem zin (B : Nat) (W : World) : Ods B W (.slice none 0 0) [] := World.ownsRow_nil _ _ _ _
end
end Or
namespace Co
open Go.RowKit Go.Shelf Go.Maps
structure St (S : Nat -> Prop) (W W' : World) : Prop where
 os : W'.os = W.os
 tape : W'.tape = W.tape
 output : W'.output = W.output
 size : W.heap.size <= W'.heap.size
 block : ∀ k, k < W.heap.size -> ¬ S k -> W'.heap[k]? = W.heap[k]?
theorem St.trans {S T : Nat -> Prop} {a b c : World} (h : St S a b) (k : St T b c) (hs : ∀ x, x < a.heap.size -> T x -> S x) : St S a c :=
 ⟨k.os.trans h.os, k.tape.trans h.tape, k.output.trans h.output, Nat.le_trans h.size k.size, fun x hx hn => (k.block x (Nat.lt_of_lt_of_le hx h.size) (fun q => hn (hs x hx q))).trans (h.block x hx hn)⟩
theorem St.of_below {S : Nat -> Prop} {a b : World} (h : Below a.heap.size a b) : St S a b := ⟨h.os, h.tape, h.output, h.size, fun k hk _ => h.block k hk⟩
theorem St.zam {S : Nat -> Prop} {a b : World} {row : Option Nat} (h : a.grownBy b row) (hS : ∀ k, row = some k -> S k) : St S a b :=
 ⟨h.os, h.tape, h.output, h.size, fun k hk hn => h.block k hk (fun e => hn (hS k e.symm))⟩
theorem St.below {S : Nat -> Prop} {a b : World} {B : Nat} (h : St S a b) (hS : ∀ k, S k -> B <= k) (hB : B <= a.heap.size) : Below B a b :=
 ⟨h.os, h.tape, h.output, h.size, fun k hk => h.block k (by omega) (fun q => by have := hS k q; omega)⟩
theorem St.setCell {S : Nat -> Prop} {a : World} {p : Addr} (v : Value) (hp : S p.block) : St S a (a.setCell p v) :=
 ⟨rfl, rfl, rfl, by simp, fun k _ hn => Below.heap_setCell _ _ _ _ (fun e => hn (e ▸ hp))⟩
theorem St.at {S : Nat -> Prop} {W W' : World} {b : Nat} {o : Obj} (hs : St S W W') (h : W.heap[b]? = some o) (hn : ¬ S b) : W'.heap[b]? = some o := (hs.block b (Array.getElem?_eq_some_iff.1 h).1 hn).trans h
theorem bAl (W : World) (o : Obj) : Below W.heap.size W (W.alloc o) := (Below.refl _ _).alloc (Nat.le_refl _) _
theorem zaa {W : World} {b j : Nat} {cs : Array Value} {e : TypeId} {u : Value} (h : W.heap[b]? = some (.cells cs e (0, 0))) (hj : cs[j]? = some u) : W.cell? ⟨b, j, none⟩ = some u := by
 rw [cell_of_row _ _ j _ e (0, 0) h]; exact hj
theorem zac {W : World} {b : Nat} {cs : Array Value} {e : TypeId} (h : W.heap[b]? = some (.cells cs e (0, 0))) (j : Nat) : W.frozen? ⟨b, j, none⟩ = false := by
 unfold World.frozen?
 rw [show (⟨b, j, none⟩ : Addr).block = b from rfl, h]
 simp
theorem zab {W W' : World} {B b : Nat} {o : Obj} (hb : Below B W W') (hB : W.heap.size <= B) (h : W.heap[b]? = some o) : W'.heap[b]? = some o := (hb.block b (Nat.lt_of_lt_of_le (Array.getElem?_eq_some_iff.1 h).1 hB)).trans h
theorem seen {B : Nat} {W W' : World} (hb : Below B W W') (hB : W.heap.size <= B) {p : Addr} {u : Value} (h : W.cell? p = some u) : W'.cell? p = some u := (hb.cell (p := p) (Nat.lt_of_lt_of_le (World.block_lt_of_cell? W p h) hB)).trans h
structure CS where
 comp : Int
 w : Nat
 rows : List Pt
structure CS.ok (s : CS) : Prop where
 w0 : 1 <= s.w
 w4 : s.w <= 4
 fit : ∀ p ∈ s.rows, p.fitB s.w = true /\ I64 p.t
def Ft (rb mb : Nat) (sv : Value) (k : Nat) : Prop := k = rb \/ k = mb \/ sv.ownBlock = some k
structure Cl (B : Nat) (W : World) (rb mb : Nat) (sv : Value) (s : CS) : Prop where
 box : W.heap[rb]? = some (.cells #[.int .i64 s.comp, .int .i64 (s.w : Int), sv, .map (some mb)] 274 (0, 0))
 row : W.ownsRow B 3 1 sv (s.rows.length * s.w) (flat s.w s.rows)
 map : ∃ D, W.ownsMap Tryz.prog 3 (plainElem Tryz.prog 3) mb s.rows.length D /\ Holds D s.rows
 ok : s.ok
 small : s.rows.length <= 1000
 low : B <= rb /\ B <= mb
section
variable {B : Nat} {W W' : World} {rb mb : Nat} {sv : Value} {s : CS}
theorem Cl.kept {T : Nat -> Prop} (h : Cl B W rb mb sv s) (hs : St T W W') (hd : ∀ k, Ft rb mb sv k -> ¬ T k) : Cl B W' rb mb sv s := by
 have lt := fun {k : Nat} {o : Obj} (h : W.heap[k]? = some o) => (Array.getElem?_eq_some_iff.1 h).1
 refine ⟨(hs.block rb (lt h.box) (hd _ (.inl rfl))).trans h.box, ?_, ?_, h.ok, h.small, h.low⟩
 ·exact zas h.row fun g cur hg hb => (hs.block g (lt hb) (hd _ (.inr (.inr hg)))).trans hb
 obtain ⟨D, ⟨es, clock, hb, q⟩, hH⟩ := h.map
 exact ⟨D, ⟨es, clock, (hs.block mb (lt hb) (hd _ (.inr (.inl rfl)))).trans hb, q⟩, hH⟩
theorem Cl.later (h : Cl B W rb mb sv s) (hb : Below W.heap.size W W') : Cl B W' rb mb sv s := h.kept (T := fun _ => False) (St.of_below hb) (fun _ _ q => q)
theorem Cl.lt (h : Cl B W rb mb sv s) (k : Nat) (hk : Ft rb mb sv k) : B <= k /\ k < W.heap.size := by
 have lt := fun {k : Nat} {o : Obj} (h : W.heap[k]? = some o) => (Array.getElem?_eq_some_iff.1 h).1
 rcases hk with rfl | rfl | hk
 ·exact ⟨h.low.1, lt h.box⟩
 ·obtain ⟨D, hD, _⟩ := h.map; exact ⟨h.low.2, hD.lt⟩
 exact h.row.lt k hk
theorem Cl.base (h : Cl B W rb mb sv s) : B <= W.heap.size := by have := h.lt rb (.inl rfl); omega
theorem Cl.c0 (h : Cl B W rb mb sv s) : W.cell? ⟨rb, 0, none⟩ = some (.int .i64 s.comp) := zaa h.box rfl
theorem Cl.c1 (h : Cl B W rb mb sv s) : W.cell? ⟨rb, 1, none⟩ = some (.int .i64 (s.w : Int)) := zaa h.box rfl
theorem Cl.c2 (h : Cl B W rb mb sv s) : W.cell? ⟨rb, 2, none⟩ = some sv := zaa h.box rfl
theorem Cl.c3 (h : Cl B W rb mb sv s) : W.cell? ⟨rb, 3, none⟩ = some (.map (some mb)) := zaa h.box rfl
theorem Cl.zgh (h : Cl B W rb mb sv s) : rb ≠ mb := fun e => by
 have h1 := h.box
 obtain ⟨D, ⟨es, cl, hb, _⟩, _⟩ := h.map
 rw [e, hb] at h1
 simp at h1
theorem Cl.ne_f (h : Cl B W rb mb sv s) (k : Nat) (hk : sv.ownBlock = some k) : k ≠ rb /\ k ≠ mb := by
 rcases h.row.2 with ⟨h1, _⟩ | ⟨g, cap, cur, h1, h2, h3, h4⟩
 ·rw [h1] at hk; simp [Value.ownBlock] at hk
 rw [h1] at hk
 have e : g = k := by simpa [Value.ownBlock] using hk
 subst e
 refine ⟨fun e => ?_, fun e => ?_⟩
 ·rw [e, h.box] at h3; simp at h3
 obtain ⟨D, ⟨es, cl, hb, _⟩, _⟩ := h.map
 rw [e, hb] at h3; simp at h3
theorem Cl.cells (h : Cl B W rb mb sv s) (h0 : 0 < s.rows.length) : ∃ g cap cur, sv = .slice (some ⟨g, 0, none⟩) (s.rows.length * s.w) cap /\ B <= g /\ W.heap[g]? = some (.cells cur 3 (0, 0)) /\ s.rows.length * s.w <= cap /\ cap <= maxLen /\ cur.size = cap /\ cur.toList.take (s.rows.length * s.w) = flat s.w s.rows := by
 have hp : 0 < s.rows.length * s.w := Nat.mul_pos h0 h.ok.w0
 rcases h.row.2 with ⟨_, h2⟩ | ⟨g, cap, cur, h1, h2, h3, h4, h5, h6, h7⟩
 ·omega
 exact ⟨g, cap, cur, h1, h2, h3, h4, h5, by simpa using h6, by simpa using h7⟩
end
theorem zpe {W : World} {mb t : Nat} {D : DataW Unit} (hD : W.ownsMap Tryz.prog 3 (plainElem Tryz.prog 3) mb t D) (n : Nat) (hn : Maps.size D = n) (ty : TypeId) :
  (Builtin.len_ #[272] ty #[.map (some mb)]).run Tryz.prog W = .ok (.int .i64 (n : Int)) W := by
 rw [<- hn]; exact hD.len Tryz.underlying272 ty
theorem zxa {B : Nat} {W : World} {rb mb : Nat} {sv : Value} {s : CS} (h : Cl B W rb mb sv s) :
  Calls Tryz.prog 203 #[.pointer (some ⟨rb, 0, none⟩)] W fun e W' => e = .returned (.int .i64 (s.rows.length : Int)) /\ W' = W := by
 have c3 := h.c3
 obtain ⟨D, hD, hH⟩ := h.map
 have hl := zpe hD s.rows.length hH.2
 clear hD hH h
 go_enter Tryz.func203, Tryz.ntmps203
 go_wp2
 go_ret
 exact ⟨rfl, rfl⟩
set_option maxRecDepth 100000 in
theorem zsz {W : World} {rb g n w L cap o : Nat} (c1 : W.cell? ⟨rb, 1, none⟩ = some (.int .i64 (w : Int))) (c2 : W.cell? ⟨rb, 2, none⟩ = some (.slice (some ⟨g, 0, none⟩) L cap)) (ho : n * w = o) (hL : o + w <= L) (hc : L <= cap) (hL4 : L <= 4000) (hw0 : 1 <= w) (hw : w <= 4) (hn : n <= 1000) :
  Calls Tryz.prog 157 #[.pointer (some ⟨rb, 0, none⟩), .int .i64 (n : Int)] W fun e W' => e = .returned (.slice (some ⟨g, o, none⟩) w (cap - o)) /\ ∃ m, W' = W.drewN m := by
 have e1 : (n : Int) * (w : Int) = (o : Int) := by rw [<- ho]; simp
 have e2 : ((n : Int) + 1) * (w : Int) = ((o + w : Nat) : Int) := by rw [Int.add_mul, e1]; simp
 have b1 : (n : Int) <= 1000 := by omega
 have b2 : (o : Int) <= 4000 := by omega
 have b3 : ((o + w : Nat) : Int) <= (L : Int) := by omega
 have b4 : (L : Int) <= (cap : Int) := by omega
 have b5 : (o : Int) <= ((o + w : Nat) : Int) := by omega
 have b6 : ((o + w : Nat) : Int) <= 4000 := by omega
 have b7 : ((o + w : Nat) : Int) <= (cap : Int) := by omega
 have b8 : ¬ (cap = o) := by omega
 have E : Hid (o + w - o = w) := by show o + w - o = w; omega
 clear ho
 go_enter Tryz.func157, Tryz.ntmps157
 go_wp2_with fail
 go_quiet (fail)
 go_wp2
 go_ret
 exact ⟨by rw [E.out]; rfl, _, rfl⟩
set_option maxRecDepth 100000 in
theorem zls (W : World) (c : Int) (w : Nat) (h0 : 0 <= c) (h1 : c <= 15) (hw0 : 1 <= w) (hw : w <= 4) :
  Calls Tryz.prog 188 #[.int .i64 c, .int .i64 (w : Int)] W fun e W' => e = .returned (.tuple #[.pointer (some ⟨W.heap.size + 1, 0, none⟩), .nilIface]) /\ Cl W.heap.size W' (W.heap.size + 1) W.heap.size (.slice none 0 0) ⟨c, w, []⟩ /\ Below W.heap.size W W' := by
 have h2 : ¬ (c < 0) := by omega
 have h3 : ¬ (16 <= c) := by omega
 have h4 : ¬ ((w : Int) < 1) := by omega
 have h5 : ¬ (4 < (w : Int)) := by omega
 have hmm := run_makeMap (P := Tryz.prog) 272
 have K : Hid (Cl W.heap.size ((W.alloc (.map #[] 0)).alloc (.cells #[.int .i64 c, .int .i64 (w : Int), .slice none 0 0, .map (some W.heap.size)] 274)) (W.heap.size + 1) W.heap.size (.slice none 0 0) ⟨c, w, []⟩ /\ Below W.heap.size W ((W.alloc (.map #[] 0)).alloc (.cells #[.int .i64 c, .int .i64 (w : Int), .slice none 0 0, .map (some W.heap.size)] 274))) := by
  refine ⟨⟨?_, ?_, ?_, ⟨hw0, hw, by simp⟩, by simp, by omega⟩, (bAl W _).alloc (by simp) _⟩
  ·have := heap_alloc_new (W.alloc (.map #[] 0)) (.cells #[.int .i64 c, .int .i64 (w : Int), .slice none 0 0, .map (some W.heap.size)] 274)
   simpa using this
  ·have := World.ownsRow_nil ((W.alloc (.map #[] 0)).alloc (.cells #[.int .i64 c, .int .i64 (w : Int), .slice none 0 0, .map (some W.heap.size)] 274)) W.heap.size 3 1
   simpa [flat] using this
  have := World.ownsMap_made W Tryz.prog 3 (plainElem (H := Unit) Tryz.prog 3)
  refine ⟨_, this.alloc _, fun i _ => ?_, rfl⟩
  have e : rowAt [] i = none := by unfold rowAt; split <;> simp
  unfold zem
  rw [e]
  exact ⟨rfl, rfl⟩
 go_enter Tryz.func188, Tryz.ntmps188
 go_wp2_with fail
 go_ret2
 exact ⟨rfl, K.out.1, K.out.2⟩
theorem zoj (x : Int) (W : World) : Calls Tryz.prog 209 #[.int .i64 x] W fun e W' => e = .returned (.bool (!(x == 0))) /\ W' = W := by
 go_enter Tryz.func209, Tryz.ntmps209
 go_wp2
 go_ret
 exact ⟨rfl, rfl⟩
def nzB (x : Int) : Bool := !(x == 0)
def Nums (W : World) (b o : Nat) (xs : List Int) : Prop := ∀ (j : Nat) x, xs[j]? = some x -> W.cell? ⟨b, o + j, none⟩ = some (.int .i64 x)
theorem zmb {xs : List Int} {k : Nat} {x : Int} (h : xs[k]? = some x) : (xs.take (k + 1)).any nzB = ((xs.take k).any nzB || nzB x) := by
 rw [zbe h, List.any_append]; simp
theorem zpy {xs : List Int} {k : Nat} {x : Int} (h : xs[k]? = some x) (hx : nzB x = true) : xs.any nzB = true := List.any_eq_true.2 ⟨x, List.mem_of_getElem? h, hx⟩
set_option maxRecDepth 100000 in
theorem zjo (W : World) (b o c : Nat) (xs : List Int) (hn : xs.length <= 4) (hm : Nums W b o xs) :
  Calls Tryz.prog 159 #[.slice (some ⟨b, o, none⟩) xs.length c, .func (.func 209) #[] #[]] W fun e W' => ∃ r : Int, e = .returned (.int .i64 r) /\ decide (0 <= r) = xs.any nzB /\ W' = W := by
 have HM := hid hm
 clear hm
 have NZ := hid zoj
 have hni : (xs.length : Int) <= 4 := by omega
 go_enter Tryz.func159, Tryz.ntmps159
 go_wp2_with fail
 go_loop [5, 8] (fun _ i => ∃ k : Nat, k <= xs.length /\ i = .int .i64 (k : Int) /\ Hid ((xs.take k).any nzB = false)) (fun _ i => xs.length - (intOf i).toNat)
 case atStart => exact ⟨0, Nat.zero_le _, rfl, rfl⟩
 case round =>
  obtain ⟨k, hk, rfl, HA⟩ := hrel
  by_cases hlt : k < xs.length
  ·have hki : (k : Int) < (xs.length : Int) := by omega
   obtain ⟨x, hx⟩ := zal xs k hlt
   have c0 := HM.out k x hx
   have AN := hid (zmb hx)
   have AH := hid (zpy hx)
   clear hx
   by_cases h0 : x = 0
   ·have e0 : (x == 0) = true := by simp [h0]
    have E : Hid ((xs.take (k + 1)).any nzB = false) := by show _ = _; rw [AN.out, HA.out]; simp [nzB, e0]
    clear h0 AH
    go_wp2_with fail
    refine (NZ.out _ _).mono ?_
    rintro e w1 ⟨rfl, rfl⟩
    go_wp2_with fail
    go_round
    case rel => exact ⟨k + 1, by omega, by go_num, E.out⟩
    case measure => simp [intOf]; omega
   have e0 : (x == 0) = false := by simp [h0]
   have E : Hid (xs.any nzB = true) := AH.out (by simp [nzB, e0])
   clear h0 AH
   go_wp2_with fail
   refine (NZ.out _ _).mono ?_
   rintro e w1 ⟨rfl, rfl⟩
   go_wp2_with fail
   go_ret
   exact ⟨_, rfl, by rw [E.out]; simp, rfl⟩
  have hki : ¬ ((k : Int) < (xs.length : Int)) := by omega
  have E : Hid (xs.any nzB = false) := by
   have := HA.out
   rw [List.take_of_length_le (by omega)] at this
   exact this
  go_wp2_with fail
  go_ret
  exact ⟨_, rfl, by rw [E.out]; simp, rfl⟩
theorem zbp (W : World) (b o c : Nat) (xs : List Int) (hn : xs.length <= 4) (hm : Nums W b o xs) :
  Calls Tryz.prog 130 #[.slice (some ⟨b, o, none⟩) xs.length c, .func (.func 209) #[] #[]] W fun e W' => e = .returned (.bool (xs.any nzB)) /\ W' = W := by
 have IX := hid (zjo W b o c xs hn hm)
 clear hm
 go_enter Tryz.func130, Tryz.ntmps130
 go_wp2_with fail
 refine IX.out.mono ?_
 rintro e w1 ⟨r, rfl, hr, rfl⟩
 have HR := hid hr
 clear hr IX
 go_wp2_with fail
 go_ret
 exact ⟨by rw [<- HR.out]; rfl, rfl⟩
theorem zpk (w : Nat) (p : Pt) : (p.cs.drop w).any nzB = !(p.fitB w) := by
 unfold Pt.fitB
 generalize p.cs.drop w = l
 induction l with
 | nil => rfl
 | cons x l ih => rw [List.any_cons, List.all_cons, ih, Bool.not_and]; rfl
theorem zfp {W : World} {b : Nat} {cm : Int} {p : Pt} (h : W.heap[b]? = some (.cells (p.arr cm) 89 (0, 0))) (w : Nat) : Nums W b (1 + w) (p.cs.drop w) := by
 intro j x hx
 refine zaa h ?_
 rw [List.getElem?_drop] at hx
 generalize hq : w + j = q at hx
 rw [show 1 + w + j = q + 1 by omega]
 match q, hx with
 | 0, hx => simp [Pt.cs] at hx; subst hx; rfl
 | 1, hx => simp [Pt.cs] at hx; subst hx; rfl
 | 2, hx => simp [Pt.cs] at hx; subst hx; rfl
 | 3, hx => simp [Pt.cs] at hx; subst hx; rfl
 | q + 4, hx => simp [Pt.cs] at hx
theorem zad (W : World) (m : Nat) : Below W.heap.size W (W.drewN m) := by
 induction m generalizing W with
 | zero => exact Below.refl _ _
 | succ m ih => exact (ih W).drew
theorem fit4 (p : Pt) : p.fitB 4 = true := rfl
set_option maxRecDepth 100000 in
theorem z3q {B : Nat} {W : World} {rb mb : Nat} {sv : Value} {s : CS} (h : Cl B W rb mb sv s) (p : Pt) (hf : p.fitB s.w = true) :
  Calls Tryz.prog 202 #[.pointer (some ⟨rb, 0, none⟩), p.val s.comp] W fun e W' => e = .returned .nilIface /\ Below W.heap.size W W' := by
 obtain ⟨W1, hW1⟩ : ∃ W1, W1 = W.alloc (.cells (p.arr s.comp) 89) := ⟨_, rfl⟩
 have BA : Hid (Below W.heap.size W W1) := by rw [hW1]; exact bAl _ _
 have q0 := (h.later BA.out).c0
 have q1 := (h.later BA.out).c1
 have hh : W1.heap[W.heap.size]? = some (.cells (p.arr s.comp) 89 (0, 0)) := by rw [hW1]; exact heap_alloc_new W (.cells (p.arr s.comp) 89)
 have d0 : W1.cell? ⟨W.heap.size, 0, none⟩ = some (.int .i64 s.comp) := zaa hh rfl
 have hw := h.ok.w4
 have HW1 := hid hW1
 by_cases h4 : s.w = 4
 ·have CO := hid (fun m => zbp (W1.drewN m) W.heap.size 1 0 [] (by simp) (by intro j x hx; simp at hx))
  have CO : Hid (∀ m, Calls Tryz.prog 130 #[.slice (some ⟨W.heap.size, 1, none⟩) 0 0, .func (.func 209) #[] #[]] (W1.drewN m) fun e W' => e = .returned (.bool false) /\ W' = W1.drewN m) := CO.out
  rw [h4] at q1
  generalize s.comp = cm at *
  clear h hf hW1 hh hw h4
  unfold Pt.val
  unfold Pt.arr at HW1
  go_enter Tryz.func202, Tryz.ntmps202
  go_wp2_with fail
  rw [<- HW1.out]
  go_quiet (fail)
  go_wp2_with fail
  refine (CO.out _).mono ?_
  rintro e w2 ⟨rfl, rfl⟩
  go_wp2_with fail
  go_ret
  exact ⟨rfl, BA.out.trans ((zad W1 nq).mono BA.out.size)⟩
 have hn4 : ¬ (4 = s.w) := by omega
 have hw4 : (s.w : Int) <= 4 := by omega
 have hz4 : ¬ (s.w = 4) := by omega
 have CO := hid (fun m => zbp (W1.drewN m) W.heap.size (1 + s.w) (4 - s.w) (p.cs.drop s.w) (by simp [Pt.cs]) (by
  intro j x hx
  exact seen (zad W1 m) (Nat.le_refl _) (zfp hh s.w j x hx)))
 rw [zpk, hf, show (p.cs.drop s.w).length = 4 - s.w by simp [Pt.cs]] at CO
 generalize s.comp = cm at *
 generalize s.w = sw at *
 clear h hf hW1 hh
 unfold Pt.val
 unfold Pt.arr at HW1
 go_enter Tryz.func202, Tryz.ntmps202
 go_wp2_with fail
 rw [<- HW1.out]
 go_quiet (fail)
 go_wp2_with fail
 refine (CO.out _).mono ?_
 rintro e w2 ⟨rfl, rfl⟩
 go_wp2_with fail
 go_ret
 exact ⟨rfl, BA.out.trans ((zad W1 nq).mono BA.out.size)⟩
def put6 (W : World) (b : Nat) (cm : Int) (p : Pt) : World := (((((W.setCell ⟨b, 0, none⟩ (.int .i64 cm)).setCell ⟨b, 1, none⟩ (.int .i64 p.a)).setCell ⟨b, 2, none⟩ (.int .i64 p.b)).setCell ⟨b, 3, none⟩ (.int .i64 p.c)).setCell ⟨b, 4, none⟩ (.int .i64 p.d)).setCell ⟨b, 5, none⟩ (.int .i64 p.t)
theorem zca {W : World} {b : Nat} {cs : Array Value} {e : TypeId} (h : W.heap[b]? = some (.cells cs e (0, 0))) (hs : cs.size = 6) (cm : Int) (p : Pt) : (put6 W b cm p).heap[b]? = some (.cells (p.arr cm) e (0, 0)) := by
 have h1 := heap_setCell_same W b 0 cs e (.int .i64 cm) h
 have h2 := heap_setCell_same _ b 1 _ e (.int .i64 p.a) h1
 have h3 := heap_setCell_same _ b 2 _ e (.int .i64 p.b) h2
 have h4 := heap_setCell_same _ b 3 _ e (.int .i64 p.c) h3
 have h5 := heap_setCell_same _ b 4 _ e (.int .i64 p.d) h4
 have h6 := heap_setCell_same _ b 5 _ e (.int .i64 p.t) h5
 unfold put6
 rw [h6]
 clear h h1 h2 h3 h4 h5 h6
 have e : ((((((cs.setIfInBounds 0 (.int .i64 cm)).setIfInBounds 1 (.int .i64 p.a)).setIfInBounds 2 (.int .i64 p.b)).setIfInBounds 3 (.int .i64 p.c)).setIfInBounds 4 (.int .i64 p.d)).setIfInBounds 5 (.int .i64 p.t)) = p.arr cm := by
  apply Array.toList_inj.1
  obtain ⟨l⟩ := cs
  match l, hs with
  | [x0, x1, x2, x3, x4, x5], _ => simp [Pt.arr]
 rw [e]
theorem zcs (W : World) (b : Nat) (cm : Int) (p : Pt) : St (fun k => k = b) W (put6 W b cm p) := by
 unfold put6
 have q : ∀ x, x < W.heap.size -> (fun k => k = b) x -> (fun k => k = b) x := fun _ _ h => h
 exact (((((St.setCell (S := fun k => k = b) (p := ⟨b, 0, none⟩) _ rfl).trans (St.setCell (S := fun k => k = b) (p := ⟨b, 1, none⟩) _ rfl) fun _ _ h => h).trans (St.setCell (S := fun k => k = b) (p := ⟨b, 2, none⟩) _ rfl) fun _ _ h => h).trans (St.setCell (S := fun k => k = b) (p := ⟨b, 3, none⟩) _ rfl) fun _ _ h => h).trans (St.setCell (S := fun k => k = b) (p := ⟨b, 4, none⟩) _ rfl) fun _ _ h => h).trans (St.setCell (S := fun k => k = b) (p := ⟨b, 5, none⟩) _ rfl) fun _ _ h => h
def Pt.zero : Pt := ⟨0, 0, 0, 0, 0⟩
theorem zbj {W : World} {b j : Nat} {cs : Array Value} {e : TypeId} {u : Value} (h : W.heap[b]? = some (.cells cs e (0, 0))) (hj : cs[j]? = some u) : W.setCell ⟨b, j, none⟩ u = W := by
 have e : (W.setCell ⟨b, j, none⟩ u).heap = W.heap := by
  apply Array.ext_getElem?
  intro k
  by_cases hk : k = b
  ·subst hk
   rw [heap_setCell_same W k j cs e u h, h]
   have : cs.setIfInBounds j u = cs := by
    apply Array.ext_getElem?
    intro m
    rw [Array.getElem?_setIfInBounds]
    split
    ·rename_i hm
     subst hm
     have := (Array.getElem?_eq_some_iff.1 hj).1
     rw [if_pos this, hj]
    rfl
   rw [this]
  exact Below.heap_setCell _ _ _ _ hk
 unfold World.setCell at e ⊢
 cases W
 simp at e ⊢
 exact e
theorem zje {W : World} {b : Nat} {e : TypeId} {cm : Int} {p : Pt} (h : W.heap[b]? = some (.cells (p.arr cm) e (0, 0))) : put6 W b cm p = W := by
 unfold put6
 rw [zbj h rfl, zbj h rfl, zbj h rfl, zbj h rfl, zbj h rfl, zbj h rfl]
structure Lies (W : World) (b : Nat) (cm : Int) (p : Pt) : Prop where
 c0 : W.cell? ⟨b, 0, none⟩ = some (.int .i64 cm)
 c1 : W.cell? ⟨b, 1, none⟩ = some (.int .i64 p.a)
 c2 : W.cell? ⟨b, 2, none⟩ = some (.int .i64 p.b)
 c3 : W.cell? ⟨b, 3, none⟩ = some (.int .i64 p.c)
 c4 : W.cell? ⟨b, 4, none⟩ = some (.int .i64 p.d)
 c5 : W.cell? ⟨b, 5, none⟩ = some (.int .i64 p.t)
 f0 : W.frozen? ⟨b, 0, none⟩ = false
 f1 : W.frozen? ⟨b, 1, none⟩ = false
 f2 : W.frozen? ⟨b, 2, none⟩ = false
 f3 : W.frozen? ⟨b, 3, none⟩ = false
 f4 : W.frozen? ⟨b, 4, none⟩ = false
 f5 : W.frozen? ⟨b, 5, none⟩ = false
theorem lies {W : World} {b : Nat} {cm : Int} {p : Pt} {e : TypeId} (h : W.heap[b]? = some (.cells (p.arr cm) e (0, 0))) : Lies W b cm p :=
 ⟨zaa h rfl, zaa h rfl, zaa h rfl, zaa h rfl, zaa h rfl, zaa h rfl, zac h 0, zac h 1, zac h 2, zac h 3, zac h 4, zac h 5⟩
theorem zdf : (Tryz.prog.info? 3).map (·.size) = some 1 := by kernel_rfl
theorem zhr (g o j : Nat) : (⟨g, o, none⟩ : Addr).add j = ⟨g, o + j, none⟩ := by unfold Addr.add; split <;> simp_all
theorem zon {W : World} {g L : Nat} {cur : Array Value} {w : Nat} {l : List Pt} {n : Nat} {p : Pt} (hg : W.heap[g]? = some (.cells cur 3 (0, 0))) (hL : cur.toList.take L = flat w l) (hw : w <= 4) (hn : l[n]? = some p) :
  ∀ (j : Nat) (v : Value), (p.row w)[j]? = some v -> W.cell? ((⟨g, n * w, none⟩ : Addr).add j) = some v := by
 intro j v hv
 have hj : j < w := by have := (List.getElem?_eq_some_iff.1 hv).1; rw [p.zcb hw] at this; exact this
 rw [zhr]
 refine zaa hg ?_
 have h1 := z6y hw hn hj
 rw [<- hL, hv, List.getElem?_take] at h1
 split at h1
 ·simpa using h1
 cases h1
set_option maxRecDepth 100000 in
theorem zrn {B : Nat} {W : World} {rb mb : Nat} {sv : Value} {s : CS} (h : Cl B W rb mb sv s) (n : Nat) (p : Pt) (hp : s.rows[n]? = some p) :
  Calls Tryz.prog 124 #[.pointer (some ⟨rb, 0, none⟩), .int .i64 (n : Int)] W fun e W' => e = .returned (.tuple #[p.val s.comp, .nilIface]) /\ Below W.heap.size W W' := by
 have hnl : n < s.rows.length := (List.getElem?_eq_some_iff.1 hp).1
 have hsm := h.small
 obtain ⟨g, cap, cur, hsv, hBg, hg, hLc, hcm, hcs, hfl⟩ := h.cells (by omega)
 subst hsv
 have hfit := (h.ok.fit p (List.mem_of_getElem? hp)).1
 have hw0 := h.ok.w0
 have hw4 := h.ok.w4
 have hnw : n * s.w + s.w <= s.rows.length * s.w := by rw [<- Nat.succ_mul]; exact Nat.mul_le_mul_right _ hnl
 have hL4 : s.rows.length * s.w <= 4000 := by have := Nat.mul_le_mul hsm hw4; omega
 have c0 := h.c0
 have c1 := h.c1
 have c2 := h.c2
 have c3 := h.c3
 have hrl := World.block_lt_of_cell? W _ c3
 have hrn := World.new_ne W _ c3
 have hrn2 : ¬ (rb = W.heap.size + 1) := by have : rb < W.heap.size := hrl; omega
 obtain ⟨D, hD, hH⟩ := (h.later (bAl W (.cells #[.int .i64 0, .int .i64 0, .int .i64 0, .int .i64 0, .int .i64 0, .int .i64 0] 89))).map
 have LK := zie hD hH (n : Int) (zaj (by omega) (by omega))
 unfold zem at LK
 rw [zdt, hp] at LK
 simp only [Option.isSome_some] at LK
 obtain ⟨W3, hW3⟩ : ∃ W3, W3 = (W.alloc (.cells #[.int .i64 0, .int .i64 0, .int .i64 0, .int .i64 0, .int .i64 0, .int .i64 0] 89)).alloc (.cells #[.int .i64 s.comp, .int .i64 0, .int .i64 0, .int .i64 0, .int .i64 0, .int .i64 p.t] 89) := ⟨_, rfl⟩
 have b3 : Below W.heap.size W W3 := by rw [hW3]; exact (bAl W _).alloc (by simp) _
 have r3 : W3.heap[W.heap.size]? = some (.cells (Pt.zero.arr 0) 89 (0, 0)) := by
  rw [hW3, Below.heap_alloc _ _ _ (by simp)]; exact heap_alloc_new W _
 have p3 : W3.heap[W.heap.size + 1]? = some (.cells ((⟨0, 0, 0, 0, p.t⟩ : Pt).arr s.comp) 89 (0, 0)) := by
  have := heap_alloc_new (W.alloc (.cells #[.int .i64 0, .int .i64 0, .int .i64 0, .int .i64 0, .int .i64 0, .int .i64 0] 89)) (.cells #[.int .i64 s.comp, .int .i64 0, .int .i64 0, .int .i64 0, .int .i64 0, .int .i64 p.t] 89)
  rw [World.size_alloc] at this
  rw [hW3]; exact this
 have g3 := zab b3 (Nat.le_refl _) hg
 have k1 := seen b3 (Nat.le_refl _) c1
 have k2 := seen b3 (Nat.le_refl _) c2
 -- the copy
 have src : ∀ m (j : Nat) (v : Value), (p.row s.w)[j]? = some v -> (W3.drewN m).cell? ((⟨g, n * s.w, none⟩ : Addr).add j) = some v := fun m => zon (W := W3.drewN m) g3 hfl hw4 hp
 have CP : ∀ m ty, (Builtin.copy_ #[68, 68] ty #[.slice (some ⟨W.heap.size + 1, 1, none⟩) 4 4, .slice (some ⟨g, n * s.w, none⟩) s.w (cap - n * s.w)]).run Tryz.prog (W3.drewN m) = .ok (.int .i64 (s.w : Int)) ((W3.drewN m).setRow (W.heap.size + 1) (p.arr s.comp)) := by
  intro m ty
  have hh := run_copy_row (P := Tryz.prog) (W3.drewN m) 68 68 ty 3 (W.heap.size + 1) 1 4 4 ⟨g, n * s.w, none⟩ s.w (cap - n * s.w) ((⟨0, 0, 0, 0, p.t⟩ : Pt).arr s.comp) 89 (p.row s.w) Tryz.underlying68 zdf p3 (by rw [p.zcb hw4]; exact (Nat.min_eq_left hw4).symm) (src m) (by rw [p.zcb hw4]; show 1 + s.w <= 6; omega) (row_one _ _)
  have e := p.filled hw0 hw4 hfit s.comp
  unfold Pt.arr at hh
  rw [e] at hh
  rw [hh, p.zcb hw4]
  rfl
 have CR := hid (fun m => zsz (W := W3.drewN m) (seen (zad W3 m) (Nat.le_refl _) k1) (seen (zad W3 m) (Nat.le_refl _) k2) rfl hnw hLc hL4 hw0 hw4 (by omega))
 -- what is there behind it
 have FIN : Hid (∀ m W4, W4 = (W3.drewN m).setRow (W.heap.size + 1) (p.arr s.comp) -> W4.heap[W.heap.size]? = some (.cells (Pt.zero.arr 0) 89 (0, 0)) /\ W4.heap[W.heap.size + 1]? = some (.cells (p.arr s.comp) 89 (0, 0)) /\ Below W.heap.size W W4) := by
  intro m W4 e
  subst e
  refine ⟨?_, ?_, ?_⟩
  ·rw [setRow_other _ _ _ _ (by omega)]; exact r3
  ·exact setRow_heap (W3.drewN m) (W.heap.size + 1) _ _ 89 _ p3
  exact (b3.trans ((zad W3 m).mono b3.size)).trans ⟨rfl, rfl, rfl, by simp [World.setRow], fun k hk => setRow_other _ _ _ _ (by omega)⟩
 have HW3 := hid hW3
 clear hD hH h hp hW3 p3 r3 b3 g3 k1 k2 src hg hfl hfit c1 c2 hBg
 generalize n * s.w = o at *
 generalize s.comp = cm at *
 generalize s.w = sw at *
 go_enter Tryz.func124, Tryz.ntmps124
 go_wp2_with fail
 rw [<- HW3.out]
 go_region_held3 (fun _ => True) (exact trivial)
  ((go_at_call 157; refine (CR.out 1).mono ?_; rintro e w8 ⟨rfl, m, rfl⟩; rw [World.drewN_drewN]))
 obtain ⟨W4, hW4⟩ : ∃ W4, W4 = (W3.drewN (1 + m)).setRow (W.heap.size + 1) (p.arr cm) := ⟨_, rfl⟩
 rw [<- hW4]
 obtain ⟨r4, p4, b4⟩ := FIN.out _ _ hW4
 have R4 := hid r4
 have B4 := hid b4
 obtain ⟨d0, d1, d2, d3, d4, d5, -, -, -, -, -, -⟩ := lies p4
 obtain ⟨x0, x1, x2, x3, x4, x5, f0, f1, f2, f3, f4, f5⟩ := lies r4
 clear LK CP CR FIN HW3 hW4 r4 p4 b4 c3 hrl hrn hrn2
 go_wp2_with fail
 have PB := zca R4.out rfl cm p
 have PS := zcs W4 W.heap.size cm p
 unfold put6 at PB PS
 obtain ⟨d0, d1, d2, d3, d4, d5, -, -, -, -, -, -⟩ := lies PB
 have BF := B4.out.trans (PS.below (B := W.heap.size) (fun k hk => by omega) B4.out.size)
 generalize (((((W4.setCell ⟨W.heap.size, 0, none⟩ (.int .i64 cm)).setCell ⟨W.heap.size, 1, none⟩ (.int .i64 p.a)).setCell ⟨W.heap.size, 2, none⟩ (.int .i64 p.b)).setCell ⟨W.heap.size, 3, none⟩ (.int .i64 p.c)).setCell ⟨W.heap.size, 4, none⟩ (.int .i64 p.d)).setCell ⟨W.heap.size, 5, none⟩ (.int .i64 p.t) = W5 at *
 exact bodyPost_ret (v := .tuple #[.agg #[.int .i64 cm, .int .i64 p.a, .int .i64 p.b, .int .i64 p.c, .int .i64 p.d, .int .i64 p.t], .nilIface]) (by simp [results, Tryz.results124, go_sem, d0, d1, d2, d3, d4, d5]) rfl ⟨rfl, BF⟩
theorem z8s {W : World} {b : Nat} {cm : Int} {p : Pt} {e : TypeId} (h : W.heap[b]? = some (.cells (p.arr cm) e (0, 0))) (w : Nat) : ∀ (j : Nat) (u : Value), (p.row w)[j]? = some u -> W.cell? ((⟨b, 1, none⟩ : Addr).add j) = some u := by
 intro j u hu
 rw [zhr]
 refine zaa h ?_
 unfold Pt.row at hu
 rw [List.getElem?_map, List.getElem?_take] at hu
 split at hu
 ·rw [show 1 + j = j + 1 by omega]
  match j, hu with
  | 0, hu => simpa [Pt.cs, Pt.arr, vI] using hu
  | 1, hu => simpa [Pt.cs, Pt.arr, vI] using hu
  | 2, hu => simpa [Pt.cs, Pt.arr, vI] using hu
  | 3, hu => simpa [Pt.cs, Pt.arr, vI] using hu
  | j + 4, hu => simp [Pt.cs] at hu
 simp at hu
theorem zgi : (Tryz.prog.info? 3).map (fun i => (i.zero, i.size, i.bytes)) = some (some (.int .i64 0), 1, 8) := by kernel_rfl
structure Grew (B : Nat) (sv : Value) (n : Nat) (l : List Value) (wc : World) (sv' : Value) (w2 : World) : Prop where
 own : w2.ownsRow B 3 1 sv' n l
 st : St (fun x => sv.ownBlock = some x) wc w2
 at' : sv'.ownBlock = sv.ownBlock \/ ∃ x, sv'.ownBlock = some x /\ wc.heap.size <= x
theorem step_cells {ops : Array Oper} {o : Oper} {a : Act} {K : Act -> World -> Prop} {Q : Exit -> Act -> World -> Prop} {E : Prop} (hgd : o.guard = none) (s x : Operand)
  (ho : o.op = .call { callee := .builtin .append, args := #[s, x], argTypes := #[68, 68] }) {B b : Nat} {wc : World} {sv : Value} {n m c : Nat} {l news : List Value} (hown : wc.ownsRow B 3 1 sv n l) (hB : B <= wc.heap.size)
  (hl : news.length = m) (hm : 0 < m) (hsm : n + m <= 5000) (hsrc : ∀ (j : Nat) u, news[j]? = some u -> wc.cell? ((⟨b, 1, none⟩ : Addr).add j) = some u) (hone : ∀ u ∈ news, u.oneCell' = true)
  {rb : Nat} {cs : Array Value} (hbox : wc.heap[rb]? = some (.cells cs 274 (0, 0))) (hcs : cs[2]? = some sv) (hne : sv.ownBlock ≠ some rb)
  (hs : a.eval s = sv) (hx : a.eval x = .slice (some ⟨b, 1, none⟩) m c)
  (h : ∀ g' cap w2, Hid (Grew B sv (n + m) (l ++ news) wc (.slice (some ⟨g', 0, none⟩) (n + m) cap) w2) -> w2.cell? ⟨rb, 2, none⟩ = some sv -> w2.frozen? ⟨rb, 2, none⟩ = false -> K (a.put o.dst (.slice (some ⟨g', 0, none⟩) (n + m) cap)) w2) :
  if Region.wanted o (yielded ops a.tmps) = true then Oper.wp Tryz.prog o a wc.drew K Q else E := by
 obtain ⟨i0, hi, hz0, hz1, hz2⟩ := info_parts zgi
 refine step_append_lies _ hgd s x 68 ho B 3 i0 (.int .i64 0) 1 8 Tryz.underlying68 hi hz0 hz1 hz2 rfl (by decide) sv n l hs (show wc.drew.ownsRow _ _ _ _ _ _ from hown) ⟨b, 1, none⟩ m c news hx (by omega) hsrc hone hm (by unfold maxLen; omega) (by omega) hB wc.heap.size rfl ?_
 intro g' cap w2 ow hg hat hlt
 have st' := St.zam (S := fun x => sv.ownBlock = some x) hg fun k e => e
 have st : St (fun x => sv.ownBlock = some x) wc w2 := ⟨st'.os, st'.tape, st'.output, st'.size, st'.block⟩
 have hbx := st.at hbox hne
 refine h g' cap w2 ⟨ow, st, ?_⟩ (zaa hbx hcs) (zac hbx 2)
 rcases hat with h1 | h1
 ·exact .inl (by rw [h1]; rfl)
 exact .inr ⟨g', rfl, by omega⟩
theorem Cl.pushed {B : Nat} {w1 w2 w4 : World} {rb mb : Nat} {sv sv' : Value} {s : CS} (h : Cl B w1 rb mb sv s) (p : Pt) (hf : p.fitB s.w = true) (ht : I64 p.t) (hsm : s.rows.length < 1000)
  (hg : Grew B sv (s.rows.length * s.w + s.w) (flat s.w s.rows ++ p.row s.w) w1 sv' w2) (hs : St (fun x => x = mb) (w2.setCell ⟨rb, 2, none⟩ sv') w4)
  (D : DataW Unit) (hD : w1.ownsMap Tryz.prog 3 (plainElem Tryz.prog 3) mb s.rows.length D) (hH : Holds D s.rows) (hD4 : w4.ownsMap Tryz.prog 3 (plainElem Tryz.prog 3) mb (s.rows.length + 1) (D.put (.int .i64 (s.rows.length : Int)) (.lit (.int .i64 p.t)))) :
  Cl B w4 rb mb sv' ⟨s.comp, s.w, s.rows ++ [p]⟩ /\ St (Ft rb mb sv) w1 w4 := by
 have l1 := (h.lt rb (.inl rfl)).2
 have lm := (h.lt mb (.inr (.inl rfl))).2
 have hnb : ∀ x, sv'.ownBlock = some x -> x ≠ rb /\ x ≠ mb := fun x hx => by
  rcases hg.at' with h1 | ⟨y, h1, h2⟩
  ·exact h.ne_f x (h1 ▸ hx)
  rw [h1] at hx; simp at hx; omega
 have b2 := hg.st.at h.box (fun e => (h.ne_f rb e).1 rfl)
 have b3 := heap_setCell_same w2 rb 2 _ 274 sv' b2
 have b4 := hs.at b3 h.zgh
 refine ⟨⟨b4, ?_, ⟨_, ?_, hH.snoc (hD.tidy zbs) p (zaj (by omega) (by omega))⟩, ⟨h.ok.w0, h.ok.w4, ?_⟩, ?_, h.low⟩, ?_⟩
 ·have e : (s.rows ++ [p]).length * s.w = s.rows.length * s.w + s.w := by rw [List.length_append, List.length_singleton, Nat.succ_mul]
  show World.ownsRow _ _ _ _ _ ((s.rows ++ [p]).length * s.w) (flat s.w (s.rows ++ [p]))
  rw [e, znq]
  refine zas hg.own fun x cur hx hb => ?_
  exact hs.at ((Below.heap_setCell _ _ _ _ (hnb x hx).1).trans hb) (hnb x hx).2
 ·show World.ownsMap _ _ _ _ _ (s.rows ++ [p]).length _
  rw [List.length_append]; exact hD4
 ·intro q hq
  rcases List.mem_append.1 hq with hq | hq
  ·exact h.ok.fit q hq
  simp at hq; subst hq; exact ⟨hf, ht⟩
 ·show (s.rows ++ [p]).length <= 1000
  rw [List.length_append]; simp; omega
 have s1 : St (Ft rb mb sv) w1 w2 := ⟨hg.st.os, hg.st.tape, hg.st.output, hg.st.size, fun x hx hn => hg.st.block x hx fun e => hn (.inr (.inr e))⟩
 exact (s1.trans (St.setCell (S := Ft rb mb sv) (p := ⟨rb, 2, none⟩) sv' (.inl rfl)) fun _ _ q => q).trans hs fun x _ q => .inr (.inl q)
set_option maxRecDepth 100000 in
theorem z8u {B : Nat} {W : World} {rb mb : Nat} {sv : Value} {s : CS} (h : Cl B W rb mb sv s) (p : Pt) (hf : p.fitB s.w = true) (ht : I64 p.t) (hsm : s.rows.length < 1000) :
  Calls Tryz.prog 189 #[.pointer (some ⟨rb, 0, none⟩), p.val s.comp] W fun e W' => e = .returned (.tuple #[.int .i64 (s.rows.length : Int), .nilIface]) /\ ∃ sv', Cl B W' rb mb sv' ⟨s.comp, s.w, s.rows ++ [p]⟩ /\ (sv'.ownBlock = sv.ownBlock \/ ∃ x, sv'.ownBlock = some x /\ W.heap.size <= x) /\ St (Ft rb mb sv) W W' := by
 have BA : Hid (Below W.heap.size W (W.alloc (.cells (p.arr s.comp) 89))) := bAl _ _
 have CK := hid (z3q (h.later BA.out) p hf)
 have HC := hid (h.later BA.out)
 have HF := hid hf
 have HT := hid ht
 have HLT := hid (fun k hk => (h.lt k hk).2)
 obtain ⟨sa, sc, rfl⟩ := zaf h.row
 have hw0 := h.ok.w0
 have hw4 := h.ok.w4
 have hwi : (s.w : Int) <= 4 := by omega
 have hnw : s.rows.length * s.w <= 4000 := by have := Nat.mul_le_mul (show s.rows.length <= 1000 by omega) hw4; omega
 clear h hf ht
 unfold Pt.val at CK ⊢
 have HW : Hid ((W.alloc (.cells (p.arr s.comp) 89)).heap[W.heap.size]? = some (.cells (p.arr s.comp) 89 (0, 0))) := heap_alloc_new W _
 have HWs : (W.alloc (.cells (p.arr s.comp) 89)).heap.size = W.heap.size + 1 := by simp
 unfold Pt.arr at CK BA HC HW HWs
 go_enter Tryz.func189, Tryz.ntmps189
 go_wp2_with fail
 refine CK.out.mono ?_
 rintro e w1 ⟨rfl, hb⟩
 have C1 := hid (HC.out.later hb)
 have B1 := hid (BA.out.trans (hb.mono BA.out.size))
 have P1 := hid (zab hb (Nat.le_refl _) HW.out)
 have hlt1 : W.heap.size < w1.heap.size := by have := hb.size; omega
 have LN := hid (zxa C1.out)
 clear hb CK HC HW HWs
 go_wp2_with fail
 refine LN.out.mono ?_
 rintro e w2 ⟨rfl, rfl⟩
 have c1 := C1.out.c1
 have c2 := C1.out.c2
 have hne : (Value.slice sa (s.rows.length * s.w) sc).ownBlock ≠ some rb := fun e => (C1.out.ne_f rb e).1 rfl
 have SRC := hid (z8s P1.out s.w)
 have RL := hid (p.zcb hw4)
 have hBw : B <= w2.heap.size := C1.out.base
 have hp0 : 0 < s.w := hw0
 have h5 : s.rows.length * s.w + s.w <= 5000 := by omega
 clear LN
 go_wp2_with fail
 go_region_law (refine step_cells rfl _ _ rfl C1.out.row hBw RL.out hp0 h5 SRC.out (row_one _ _) C1.out.box rfl hne rfl rfl ?_; intro g' cap w3 hgr hx3 hf3)
 all_goals
  obtain ⟨w4, hw4'⟩ : ∃ w4, w4 = w3.setCell ⟨rb, 2, none⟩ (.slice (some ⟨g', 0, none⟩) (s.rows.length * s.w + s.w) cap) := ⟨_, rfl⟩
  rw [<- hw4']
  have HW4 := hid hw4'
  obtain ⟨D, hD, hH⟩ := C1.out.map
  have nsf : ∀ k, (Value.slice sa (s.rows.length * s.w) sc).ownBlock = some k -> k < W.heap.size := fun k hk => HLT.out k (.inr (.inr hk))
  have D3 : w3.ownsMap Tryz.prog 3 (plainElem Tryz.prog 3) mb s.rows.length D := by
   have hlt := hD.lt
   obtain ⟨es, cl, hb, q⟩ := hD
   exact ⟨es, cl, (hgr.out.st.block mb hlt (fun e => (C1.out.ne_f mb e).2 rfl)).trans hb, q⟩
  have D4 : w4.ownsMap Tryz.prog 3 (plainElem Tryz.prog 3) mb s.rows.length D := by rw [hw4']; exact D3.setCell (fun e => C1.out.zgh e.symm) _
  obtain ⟨w6, hmu, D6, ht6⟩ := D4.drew.store zbs Tryz.underlying272 (by unfold maxLen; omega) (zce (s.rows.length : Int) (zaj (by omega) (by omega))) (plainElem_int Tryz.underlying3 HT.out)
  have p3 := hgr.out.st.at P1.out (fun e => by have := nsf _ e; omega)
  have hrbW : rb < W.heap.size := HLT.out rb (.inl rfl)
  have hmbW : mb < W.heap.size := HLT.out mb (.inr (.inl rfl))
  have p4 : w4.heap[W.heap.size]? = some (.cells #[.int .i64 s.comp, .int .i64 p.a, .int .i64 p.b, .int .i64 p.c, .int .i64 p.d, .int .i64 p.t] 89 (0, 0)) := by
   rw [hw4', Below.heap_setCell _ _ _ _ (show W.heap.size ≠ rb by omega)]; exact p3
  have x4 := heap_setCell_same w3 rb 2 _ 274 (.slice (some ⟨g', 0, none⟩) (s.rows.length * s.w + s.w) cap) (hgr.out.st.at C1.out.box hne)
  rw [<- hw4'] at x4
  have g6 : ∀ k, k < w4.heap.size -> k ≠ mb -> w6.heap[k]? = w4.heap[k]? := fun k hk hne => ht6.grown.block k (by simpa using hk) (by simpa using hne)
  have p6 := (g6 _ (Array.getElem?_eq_some_iff.1 p4).1 (by omega)).trans p4
  have x6 := (g6 _ (Array.getElem?_eq_some_iff.1 x4).1 C1.out.zgh).trans x4
  have K4 : Hid (w4.drew.cell? ⟨rb, 3, none⟩ = some (.map (some mb)) /\ w4.drew.cell? ⟨W.heap.size, 5, none⟩ = some (.int .i64 p.t)) := ⟨zaa (W := w4) x4 rfl, zaa (W := w4) p4 rfl⟩
  have K6 : Hid (w6.cell? ⟨rb, 3, none⟩ = some (.map (some mb)) /\ w6.cell? ⟨W.heap.size, 5, none⟩ = some (.int .i64 p.t)) := ⟨zaa x6 rfl, zaa p6 rfl⟩
  have s46 : St (fun x => x = mb) w4 w6 := by
   have s' := St.zam (S := fun x => x = mb) ht6.grown fun k e => by simpa using e.symm
   exact ⟨s'.os, s'.tape, s'.output, s'.size, s'.block⟩
  have FN := C1.out.pushed p HF.out HT.out hsm hgr.out (w4 := w6) (by rw [<- hw4']; exact s46) D hD hH D6
  have HFN := hid FN
  have HAT := hid hgr.out.at'
  clear FN s46 g6 p6 x6 x4 p4 p3 D6 D4 D3 ht6 hD hH hw4' hgr hx3 hf3 c1 c2 nsf
  go_wp2_with fail
  go_region_held3 (fun W' => W'.cell? ⟨rb, 3, none⟩ = some (.map (some mb)) /\ W'.cell? ⟨W.heap.size, 5, none⟩ = some (.int .i64 p.t)) (first | exact K4.out | exact K6.out) (fail)
  clear hmu K4 K6
  go_wp2_with fail
  go_ret2
  refine ⟨rfl, _, HFN.out.1, ?_, ?_⟩
  ·rcases HAT.out with h | ⟨x, h, h'⟩
   ·exact .inl h
   exact .inr ⟨x, h, by omega⟩
  exact (St.of_below B1.out).trans HFN.out.2 fun _ _ q => q
theorem zqe {w : Nat} (hw : w <= 4) {cur : List Value} {l : List Pt} (hc : cur.take (l.length * w) = flat w l) (hL : l.length * w <= cur.length) {n : Nat} (hn : n < l.length) (p : Pt) :
  (cur.take (n * w) ++ p.row w ++ cur.drop (n * w + w)).take (l.length * w) = flat w (l.set n p) := by
 have hnw : n * w + w <= l.length * w := by rw [<- Nat.succ_mul]; exact Nat.mul_le_mul_right _ hn
 rw [<- zpq hw hn, <- hc, List.take_take, Nat.min_eq_left (by omega), List.take_append, List.take_of_length_le (by simp [p.zcb hw]; omega), List.drop_take]
 congr 2
 simp [p.zcb hw]
 omega
theorem zxy (W : World) (g : Nat) (cs : Array Value) : St (fun k => k = g) W (W.setRow g cs) :=
 ⟨rfl, rfl, rfl, by simp [World.setRow], fun _ _ hn => setRow_other _ _ _ _ hn⟩
theorem z3p (S : Nat -> Prop) (W : World) (m : Nat) : St S W (W.drewN m) := St.of_below (zad W m)
theorem yac {W W' : World} {mb : Nat} (h : W.drew.mapTurned W' mb) : St (fun k => k = mb) W W' := by
 have s' := St.zam (S := fun x => x = mb) h.grown fun k e => by simpa using e.symm
 exact ⟨s'.os, s'.tape, s'.output, s'.size, s'.block⟩
theorem z8r {W W' : World} {mb : Nat} (h : W.mapTurned W' mb) : St (fun k => k = mb) W W' :=
 St.zam (S := fun x => x = mb) h.grown fun k e => by simpa using e.symm
theorem St.map {S : Nat -> Prop} {W W' : World} (hs : St S W W') {mb n : Nat} {D : DataW Unit} (h : W.ownsMap Tryz.prog 3 (plainElem Tryz.prog 3) mb n D) (hn : ¬ S mb) : W'.ownsMap Tryz.prog 3 (plainElem Tryz.prog 3) mb n D := by
 have hlt := h.lt
 obtain ⟨es, cl, hb, q⟩ := h
 exact ⟨es, cl, (hs.block mb hlt hn).trans hb, q⟩
theorem zbn {n : Int} (h0 : -1000000 <= n) (h1 : n <= 1000000) : IntKind.i64.wrap n = n := by
 rw [IntKind.wrap_i64]; omega
def CS.taken (s : CS) (n : Nat) (pl : Pt) : CS := ⟨s.comp, s.w, (s.rows.set n pl).dropLast⟩
theorem Cl.took {B : Nat} {W W' : World} {rb mb g cap : Nat} {cur : Array Value} {s : CS} (h : Cl B W rb mb (.slice (some ⟨g, 0, none⟩) (s.rows.length * s.w) cap) s) (n : Nat) (hn : n < s.rows.length) (pl : Pt) (hpl : s.rows[s.rows.length - 1]? = some pl)
  (hcl : s.rows.length * s.w <= cap) (hcm : cap <= maxLen) (hcs : cur.size = cap) (hfl : cur.toList.take (s.rows.length * s.w) = flat s.w s.rows) (hBg : B <= g)
  (hbox : W'.heap[rb]? = some (.cells #[.int .i64 s.comp, .int .i64 (s.w : Int), .slice (some ⟨g, 0, none⟩) ((s.rows.length - 1) * s.w) cap, .map (some mb)] 274 (0, 0)))
  (hg : W'.heap[g]? = some (.cells (cur.toList.take (n * s.w) ++ pl.row s.w ++ cur.toList.drop (n * s.w + (pl.row s.w).length)).toArray 3 (0, 0)))
  (D : DataW Unit) (hD : W'.ownsMap Tryz.prog 3 (plainElem Tryz.prog 3) mb (s.rows.length + 1) D) (hH : Holds D (s.rows.set n pl).dropLast) :
  Cl B W' rb mb (.slice (some ⟨g, 0, none⟩) ((s.rows.length - 1) * s.w) cap) (s.taken n pl) := by
 have hw4 := h.ok.w4
 have hnw : n * s.w + s.w <= s.rows.length * s.w := by rw [<- Nat.succ_mul]; exact Nat.mul_le_mul_right _ hn
 have hl1 : (s.rows.length - 1) * s.w <= s.rows.length * s.w := Nat.mul_le_mul_right _ (by omega)
 have hdl : ((s.rows.set n pl).dropLast).length = s.rows.length - 1 := by simp
 have hrl := pl.zcb hw4
 refine ⟨hbox, ?_, ⟨D, zcf hD hH.2, hH⟩, ⟨h.ok.w0, hw4, ?_⟩, ?_, h.low⟩
 ·show World.ownsRow _ _ _ _ _ (((s.rows.set n pl).dropLast).length * s.w) (flat s.w (s.rows.set n pl).dropLast)
  rw [hdl]
  refine ⟨by rw [z2y hw4, hdl]; omega, .inr ⟨g, cap, _, rfl, hBg, hg, by omega, hcm, ?_, ?_⟩⟩
  ·simp [hrl]; omega
  rw [Nat.mul_one]
  have e := zqe hw4 (cur := cur.toList) hfl (by simp; omega) hn pl
  have e2 := congrArg (List.take ((s.rows.length - 1) * s.w)) e
  rw [List.take_take, Nat.min_eq_left hl1, zob hw4 _ _ (by simp)] at e2
  rw [List.toList_toArray, hrl, e2, List.dropLast_eq_take]
  simp
 ·intro q hq
  have hq' := List.dropLast_subset _ hq
  rcases List.mem_or_eq_of_mem_set hq' with h1 | h1
  ·exact h.ok.fit q h1
  subst h1; exact h.ok.fit _ (List.mem_of_getElem? hpl)
 show ((s.rows.set n pl).dropLast).length <= 1000
 rw [hdl]; have := h.small; omega
set_option maxRecDepth 100000 in
theorem z6c {B : Nat} {W : World} {rb mb : Nat} {sv : Value} {s : CS} (h : Cl B W rb mb sv s) (n : Nat) (p : Pt) (hp : s.rows[n]? = some p) (pl : Pt) (hpl : s.rows[s.rows.length - 1]? = some pl) :
  Calls Tryz.prog 191 #[.pointer (some ⟨rb, 0, none⟩), .int .i64 (n : Int)] W fun e W' => e = .returned (.tuple #[p.val s.comp, .nilIface]) /\ ∃ sv', Cl B W' rb mb sv' (s.taken n pl) /\ sv'.ownBlock = sv.ownBlock /\ St (Ft rb mb sv) W W' := by
 have hnl : n < s.rows.length := (List.getElem?_eq_some_iff.1 hp).1
 have hsm := h.small
 obtain ⟨g, cap, cur, hsv, hBg, hg, hLc, hcm, hcs, hfl⟩ := h.cells (by omega)
 subst hsv
 have hw0 := h.ok.w0
 have hw4 := h.ok.w4
 have H := hid h
 have HP := hid hp
 have HPL := hid hpl
 have BA : Hid (Below W.heap.size W (W.alloc (.cells #[.int .i64 0, .int .i64 0, .int .i64 0, .int .i64 0, .int .i64 0, .int .i64 0] 89))) := bAl _ _
 have RW := hid (zrn (h.later BA.out) n p hp)
 have hgW : g < W.heap.size := (h.lt g (.inr (.inr rfl))).2
 have hrW : rb < W.heap.size := (h.lt rb (.inl rfl)).2
 have hmW : mb < W.heap.size := (h.lt mb (.inr (.inl rfl))).2
 have HG := hid hg
 have HFL := hid hfl
 obtain ⟨last, hlast⟩ : ∃ last, last = s.rows.length - 1 := ⟨_, rfl⟩
 have hli : ((s.rows.length : Int) - 1) = (last : Int) := by omega
 have HLI := hid hli
 have HLA := hid hlast
 unfold Pt.val at RW ⊢
 clear h hp hpl hg hfl hli hlast
 go_enter Tryz.func191, Tryz.ntmps191
 go_wp2_with fail
 refine RW.out.mono ?_
 rintro e w1 ⟨rfl, hb⟩
 have R1 : Hid (w1.heap[W.heap.size]? = some (.cells (Pt.zero.arr 0) 89 (0, 0))) := zab hb (Nat.le_refl _) (heap_alloc_new W (.cells #[.int .i64 0, .int .i64 0, .int .i64 0, .int .i64 0, .int .i64 0, .int .i64 0] 89))
 have B1 := hid (BA.out.trans (hb.mono BA.out.size))
 have hz1 : W.heap.size < w1.heap.size := by have := hb.size; simp at this; omega
 clear hb RW
 obtain ⟨w2, hw2⟩ : ∃ w2, w2 = w1.alloc (.cells #[.int .i64 s.comp, .int .i64 p.a, .int .i64 p.b, .int .i64 p.c, .int .i64 p.d, .int .i64 p.t] 89) := ⟨_, rfl⟩
 have b12 : Below w1.heap.size w1 w2 := by rw [hw2]; exact bAl _ _
 have B2 := hid (B1.out.trans (b12.mono B1.out.size))
 have R2 := hid (zab b12 (Nat.le_refl _) R1.out)
 have O2 : Hid (w2.heap[w1.heap.size]? = some (.cells (p.arr s.comp) 89 (0, 0))) := by rw [hw2]; exact heap_alloc_new w1 _
 have C2 := hid (H.out.later B2.out)
 have G2 := hid (zab B2.out (Nat.le_refl _) HG.out)
 have LN := hid (zxa C2.out)
 have HW2 := hid hw2
 clear b12 hw2
 go_wp2_with fail
 rw [<- HW2.out]
 refine LN.out.mono ?_
 rintro e w3 ⟨rfl, rfl⟩
 have hsl : (s.rows.length : Int) <= 1000 := by omega
 clear LN
 have hnw : n * s.w + s.w <= s.rows.length * s.w := by rw [<- Nat.succ_mul]; exact Nat.mul_le_mul_right _ hnl
 have hlw : last * s.w + s.w <= s.rows.length * s.w := by rw [<- Nat.succ_mul]; exact Nat.mul_le_mul_right _ (by have := HLA.out; omega)
 have hL4 : s.rows.length * s.w <= 4000 := by have := Nat.mul_le_mul hsm hw4; omega
 have hpl' : s.rows[last]? = some pl := by rw [HLA.out]; exact HPL.out
 have CR := hid (fun m k (hk : k <= 1000) (hkw : k * s.w + s.w <= s.rows.length * s.w) => zsz (W := w3.drewN m) (seen (zad w3 m) (Nat.le_refl _) C2.out.c1) (seen (zad w3 m) (Nat.le_refl _) C2.out.c2) (n := k) rfl hkw hLc hL4 hw0 hw4 hk)
 obtain ⟨cur', hcur'⟩ : ∃ cur', cur' = (cur.toList.take (n * s.w) ++ pl.row s.w ++ cur.toList.drop (n * s.w + (pl.row s.w).length)).toArray := ⟨_, rfl⟩
 have CP : ∀ m ty, (Builtin.copy_ #[68, 68] ty #[.slice (some ⟨g, n * s.w, none⟩) s.w (cap - n * s.w), .slice (some ⟨g, last * s.w, none⟩) s.w (cap - last * s.w)]).run Tryz.prog (w3.drewN m) = .ok (.int .i64 (s.w : Int)) ((w3.drewN m).setRow g cur') := by
  intro m ty
  rw [hcur']
  have hh := run_copy_row (P := Tryz.prog) (w3.drewN m) 68 68 ty 3 g (n * s.w) s.w (cap - n * s.w) ⟨g, last * s.w, none⟩ s.w (cap - last * s.w) cur 3 (pl.row s.w) Tryz.underlying68 zdf G2.out (by rw [pl.zcb hw4]; exact (Nat.min_self _).symm) (zon (W := w3.drewN m) G2.out HFL.out hw4 hpl') (by rw [pl.zcb hw4]; omega) (row_one _ _)
  rw [hh, pl.zcb hw4]
  rfl
 have HPL' := hid hpl'
 have HCU := hid hcur'
 clear hpl' hcur'
 go_wp2_with fail
 rw [HLI.out]
 refine (CR.out 0 n (by omega) hnw).mono ?_
 rintro e w4 ⟨rfl, m1, rfl⟩
 rw [World.drewN_drewN]
 go_wp2_with fail
 refine (CR.out m1 last (by have := HLA.out; omega) hlw).mono ?_
 rintro e w4 ⟨rfl, m2, rfl⟩
 rw [World.drewN_drewN]
 go_wp2_with fail
 obtain ⟨w4, hw4'⟩ : ∃ w4, w4 = (w3.drewN (m1 + m2)).setRow g cur' := ⟨_, rfl⟩
 rw [<- hw4']
 have ngr : g ≠ rb := (C2.out.ne_f g rfl).1
 have ngm : g ≠ mb := (C2.out.ne_f g rfl).2
 have nrm : rb ≠ mb := C2.out.zgh
 have s34 : St (fun k => k = g) w3 w4 := by rw [hw4']; exact (z3p (fun k => k = g) w3 _).trans (zxy _ g _) fun _ _ q => q
 have G4 : Hid (w4.heap[g]? = some (.cells cur' 3 (0, 0))) := by rw [hw4']; exact setRow_heap (w3.drewN (m1 + m2)) g cur _ 3 _ G2.out
 have X4 := hid (s34.at C2.out.box (fun e => ngr e.symm))
 have R4 := hid (s34.at R2.out (by omega))
 have O4 := hid (s34.at O2.out (by omega))
 obtain ⟨D, hD, hH⟩ := C2.out.map
 have hD4 := s34.map hD (fun e => ngm e.symm)
 have hIn : I64 (n : Int) := zaj (by omega) (by omega)
 have hIl : I64 (last : Int) := zaj (by omega) (by have := HLA.out; omega)
 have hpt : I64 pl.t := (H.out.ok.fit pl (List.mem_of_getElem? HPL.out)).2
 have tl : zem s.rows (last : Int) = pl.t := by unfold zem; rw [zdt, HPL'.out]
 have LK4 := zsv (W := w4.drew) hD4 hH (last : Int) hIl
 rw [tl] at LK4
 obtain ⟨w5, hmu, hD5, ht5⟩ := hD4.drew.store zbs Tryz.underlying272 (by unfold maxLen; omega) (zce (n : Int) hIn) (plainElem_int Tryz.underlying3 hpt)
 have hH5 := hH.set (hD.tidy zbs) hnl pl hIn
 have tl5 : zem (s.rows.set n pl) (last : Int) = pl.t := by
  unfold zem
  rw [rowAt_set _ _ _ hnl]
  by_cases e : (last : Int) = (n : Int)
  ·rw [if_pos e]
  rw [if_neg e, zdt, HPL'.out]
 have LK5 := zsv hD5 hH5 (last : Int) hIl
 rw [tl5] at LK5
 have s45 := yac ht5
 have X5 := hid (s45.at X4.out nrm)
 have G5 := hid (s45.at G4.out ngm)
 have hz2 : w1.heap.size < w3.heap.size := (Array.getElem?_eq_some_iff.1 O2.out).1
 have R5 := hid (s45.at R4.out (by omega))
 have O5 := hid (s45.at O4.out (by omega))
 have S35 : Hid (St (fun k => k = g \/ k = mb) w3 w5) := (St.trans (S := fun k => k = g \/ k = mb) ⟨s34.os, s34.tape, s34.output, s34.size, fun k hk hn => s34.block k hk fun e => hn (.inl e)⟩ s45 fun _ _ q => .inr q)
 have HD5 := hid hD5
 have HH5 := hid hH5
 have K4 : Hid (w4.drew.cell? ⟨rb, 3, none⟩ = some (.map (some mb)) /\ (Instr.lookup 272 (.map (some mb)) (.int .i64 (last : Int)) false).run Tryz.prog w4.drew = .ok (.int .i64 pl.t) w4.drew) := ⟨zaa (W := w4) X4.out rfl, LK4⟩
 have K5 : Hid (w5.cell? ⟨rb, 3, none⟩ = some (.map (some mb)) /\ (Instr.lookup 272 (.map (some mb)) (.int .i64 (last : Int)) false).run Tryz.prog w5 = .ok (.int .i64 pl.t) w5) := ⟨zaa X5.out rfl, LK5⟩
 clear hD hH hD4 LK4 LK5 hD5 hH5 ht5 s34 s45 tl tl5 hw4' CR CP X4 R4 O4 G4
 go_region_held3 (fun W' => W'.cell? ⟨rb, 3, none⟩ = some (.map (some mb)) /\ (Instr.lookup 272 (.map (some mb)) (.int .i64 (last : Int)) false).run Tryz.prog W' = .ok (.int .i64 pl.t) W') (first | exact K4.out | exact K5.out) (fail)
 clear hmu K4 K5
 obtain ⟨o2, ho2⟩ : ∃ o2, last * s.w = o2 := ⟨_, rfl⟩
 have e1 : (last : Int) * (s.w : Int) = (o2 : Int) := by rw [<- ho2]; simp
 have q1 := zaa X5.out (j := 1) rfl
 have q2 := zaa X5.out (j := 2) rfl
 have f2 := zac X5.out 2
 have bo : (o2 : Int) <= (cap : Int) := by omega
 have bo4 : (o2 : Int) <= 4000 := by omega
 have wr : IntKind.i64.wrap (o2 : Int) = (o2 : Int) := zbn (by omega) (by omega)
 have HO2 := hid ho2
 clear ho2
 go_wp2_with fail
 go_region_law (fail)
 all_goals
  obtain ⟨w6, hw6⟩ : ∃ w6, w6 = (w5.setCell ⟨rb, 2, none⟩ (.slice (some ⟨g, 0, none⟩) o2 cap)).drew := ⟨_, rfl⟩
  rw [<- hw6]
  have s56 : St (fun k => k = rb) w5 w6 := by
   rw [hw6]
   have s' := St.setCell (S := fun k => k = rb) (a := w5) (p := ⟨rb, 2, none⟩) (.slice (some ⟨g, 0, none⟩) o2 cap) rfl
   exact ⟨s'.os, s'.tape, s'.output, s'.size, s'.block⟩
  have X6 : Hid (w6.heap[rb]? = some (.cells #[.int .i64 s.comp, .int .i64 (s.w : Int), .slice (some ⟨g, 0, none⟩) o2 cap, .map (some mb)] 274 (0, 0))) := by rw [hw6]; exact heap_setCell_same w5 rb 2 _ 274 _ X5.out
  have G6 := hid (s56.at G5.out ngr)
  have R6 := hid (s56.at R5.out (by omega))
  have O6 := hid (s56.at O5.out (by omega))
  have D6 := s56.map HD5.out (fun e => nrm e.symm)
  have c3 := zaa X6.out (j := 3) rfl
  obtain ⟨w7, hdel, hD7, ht7⟩ := D6.drop zbs Tryz.underlying272 (zce (last : Int) hIl) 0
  have s67 := z8r ht7
  have X7 := hid (s67.at X6.out nrm)
  have G7 := hid (s67.at G6.out ngm)
  have R7 := hid (s67.at R6.out (by omega))
  have O7 := hid (s67.at O6.out (by omega))
  have hsl' : (s.rows.set n pl).length = s.rows.length := by simp
  have hH7 := HH5.out.drop (HD5.out.tidy zbs) (by omega) (by rw [hsl', HLI.out]; exact hIl)
  rw [hsl', HLI.out] at hH7
  have HD7 := hid hD7
  have HH7 := hid hH7
  have S37 : Hid (St (Ft rb mb (.slice (some ⟨g, 0, none⟩) (s.rows.length * s.w) cap)) w3 w7) := by
   refine (St.trans (S := Ft rb mb (.slice (some ⟨g, 0, none⟩) (s.rows.length * s.w) cap)) ⟨S35.out.os, S35.out.tape, S35.out.output, S35.out.size, fun k hk hn => S35.out.block k hk fun e => hn (e.elim (fun e => .inr (.inr (by rw [e]; rfl))) (fun e => .inr (.inl e)))⟩ s56 fun _ _ q => .inl q).trans s67 fun _ _ q => .inr (.inl q)
  clear D6 ht7 s56 s67 hD7 hH7 hw6 q1 q2 f2
  obtain ⟨d0, d1, d2, d3, d4, d5, -, -, -, -, -, -⟩ := lies O7.out
  obtain ⟨x0, x1, x2, x3, x4, x5, f0, f1, f2, f3, f4, f5⟩ := lies R7.out
  go_wp2_with fail
  have PB := zca R7.out rfl s.comp p
  have PS := zcs w7 W.heap.size s.comp p
  unfold put6 at PB PS
  obtain ⟨d0, d1, d2, d3, d4, d5, -, -, -, -, -, -⟩ := lies PB
  generalize (((((w7.setCell ⟨W.heap.size, 0, none⟩ (.int .i64 s.comp)).setCell ⟨W.heap.size, 1, none⟩ (.int .i64 p.a)).setCell ⟨W.heap.size, 2, none⟩ (.int .i64 p.b)).setCell ⟨W.heap.size, 3, none⟩ (.int .i64 p.c)).setCell ⟨W.heap.size, 4, none⟩ (.int .i64 p.d)).setCell ⟨W.heap.size, 5, none⟩ (.int .i64 p.t) = w8 at *
  have X8 := PS.at X7.out (by omega)
  have G8 := PS.at G7.out (by omega)
  have D8 := PS.map HD7.out (by omega)
  rw [HCU.out] at G8
  rw [<- HO2.out, HLA.out] at X8
  have FN := H.out.took n hnl pl HPL.out hLc hcm hcs HFL.out hBg X8 G8 _ D8 HH7.out
  have SF : St (Ft rb mb (.slice (some ⟨g, 0, none⟩) (s.rows.length * s.w) cap)) W w8 := ((St.of_below B2.out).trans S37.out fun _ _ q => q).trans PS fun k hk q => by omega
  exact bodyPost_ret (v := .tuple #[.agg #[.int .i64 s.comp, .int .i64 p.a, .int .i64 p.b, .int .i64 p.c, .int .i64 p.d, .int .i64 p.t], .nilIface]) (by simp [results, Tryz.results191, go_sem, d0, d1, d2, d3, d4, d5]) rfl ⟨rfl, _, FN, rfl, SF⟩
theorem eqA (n : Nat) (h : ∀ (x : Int) (w : World), (Op.equalIn n 3 (.int .i64 x) (.int .i64 x)).run Tryz.prog w = .ok true w) (w : World) (a b c e : Int) : (Op.equalIn (n + 1) 87 (.agg #[.int .i64 a, .int .i64 b, .int .i64 c, .int .i64 e]) (.agg #[.int .i64 a, .int .i64 b, .int .i64 c, .int .i64 e])).run Tryz.prog w = .ok true w := by
 have u32 := Tryz.underlying87
 have a3 := Tryz.isAgg3
 have z3 := Tryz.sizeOf3
 simp only [Op.equalIn, Sem.run_bind, run_underlying u32, Result.andThen_ok, z3]
 simp [Std.Legacy.Range.forIn_eq_forIn_range', Std.Legacy.Range.size, List.range', part, a3, z3, h, go_sem]
theorem eqI (d : Nat) (x : Int) (w : World) : (Op.equalIn (d + 1) 3 (.int .i64 x) (.int .i64 x)).run Tryz.prog w = .ok true w := by
 rw [run_equalIn_int w d 3 .i64 .i64 x x Tryz.underlying3]
 simp
theorem yaa (x a b c e t : Int) (w : World) : (Op.equalIn 10000 89 (.agg #[.int .i64 x, .int .i64 a, .int .i64 b, .int .i64 c, .int .i64 e, .int .i64 t]) (.agg #[.int .i64 x, .int .i64 a, .int .i64 b, .int .i64 c, .int .i64 e, .int .i64 t])).run Tryz.prog w = .ok true w := by
 have hS : Tryz.prog.underlying 89 = some (.struct (Tryz.prog.fieldsOf 89)) := by kernel_rfl
 have hp : Tryz.prog.stoodInHeld 89 = false := by kernel_rfl
 have h := run_equalIn_agg (P := Tryz.prog) w 9999 89 #[.int .i64 x, .int .i64 a, .int .i64 b, .int .i64 c, .int .i64 e, .int .i64 t] #[.int .i64 x, .int .i64 a, .int .i64 b, .int .i64 c, .int .i64 e, .int .i64 t] hS hp
 have u3 := Tryz.underlying3
 have a3 := Tryz.isAgg3
 have z3 := Tryz.sizeOf3
 have u32 := Tryz.underlying87
 have a32 := Tryz.isAgg87
 have z32 := Tryz.sizeOf87
 have hA : ∀ w, (Op.equalIn 9999 87 (.agg #[.int .i64 a, .int .i64 b, .int .i64 c, .int .i64 e]) (.agg #[.int .i64 a, .int .i64 b, .int .i64 c, .int .i64 e])).run Tryz.prog w = .ok true w := fun w => eqA 9998 (eqI 9997) w a b c e
 simp only [Program.fieldsOf, Tryz.underlying89] at h
 rw [show (10000 : Nat) = 9999 + 1 from rfl, h]
 clear h hS hp
 go_simp
theorem neqP (x a b c e t : Int) (w : World) : (binOp .neq 89 (.agg #[.int .i64 x, .int .i64 a, .int .i64 b, .int .i64 c, .int .i64 e, .int .i64 t]) (.agg #[.int .i64 x, .int .i64 a, .int .i64 b, .int .i64 c, .int .i64 e, .int .i64 t])).run Tryz.prog w = .ok (.bool false) w := by
 simp only [binOp]
 simp [Op.equal, Op.maxDepth, yaa]
def Col (B : Nat) (W : World) (rb : Nat) (s : CS) (S : Nat -> Prop) : Prop := ∃ mb sv, Cl B W rb mb sv s /\ ∀ k, S k ↔ Ft rb mb sv k
section
variable {B : Nat} {W W' : World} {rb : Nat} {s : CS} {S : Nat -> Prop}
theorem Col.kept {T : Nat -> Prop} (h : Col B W rb s S) (hs : St T W W') (hd : ∀ k, S k -> ¬ T k) : Col B W' rb s S := by
 obtain ⟨mb, sv, h1, h2⟩ := h
 exact ⟨mb, sv, h1.kept hs fun k hk => hd k ((h2 k).2 hk), h2⟩
theorem Col.later (h : Col B W rb s S) (hb : Below W.heap.size W W') : Col B W' rb s S := h.kept (T := fun _ => False) (St.of_below hb) fun _ _ q => q
theorem Col.lt (h : Col B W rb s S) (k : Nat) (hk : S k) : B <= k /\ k < W.heap.size := by
 obtain ⟨mb, sv, h1, h2⟩ := h
 exact h1.lt k ((h2 k).1 hk)
theorem z8l (W : World) (c : Int) (w : Nat) (h0 : 0 <= c) (h1 : c <= 15) (hw0 : 1 <= w) (hw : w <= 4) :
  Calls Tryz.prog 188 #[.int .i64 c, .int .i64 (w : Int)] W fun e W' => ∃ rb S, e = .returned (.tuple #[.pointer (some ⟨rb, 0, none⟩), .nilIface]) /\ Col W.heap.size W' rb ⟨c, w, []⟩ S /\ Below W.heap.size W W' := by
 refine (zls W c w h0 h1 hw0 hw).mono ?_
 rintro e w1 ⟨rfl, h, hb⟩
 exact ⟨_, _, rfl, ⟨_, _, h, fun _ => Iff.rfl⟩, hb⟩
theorem z3l (h : Col B W rb s S) (p : Pt) (hf : p.fitB s.w = true) (ht : I64 p.t) (hsm : s.rows.length < 1000) :
  Calls Tryz.prog 189 #[.pointer (some ⟨rb, 0, none⟩), p.val s.comp] W fun e W' => e = .returned (.tuple #[.int .i64 (s.rows.length : Int), .nilIface]) /\ ∃ S', Col B W' rb ⟨s.comp, s.w, s.rows ++ [p]⟩ S' /\ St S W W' /\ ∀ x, S' x -> S x \/ W.heap.size <= x := by
 obtain ⟨mb, sv, h1, h2⟩ := h
 refine (z8u h1 p hf ht hsm).mono ?_
 rintro e w ⟨rfl, sv', h3, h4, h5⟩
 refine ⟨rfl, _, ⟨mb, sv', h3, fun _ => Iff.rfl⟩, ⟨h5.os, h5.tape, h5.output, h5.size, fun k hk hn => h5.block k hk fun q => hn ((h2 k).2 q)⟩, fun x hx => ?_⟩
 rcases hx with hx | hx | hx
 ·exact .inl ((h2 x).2 (.inl hx))
 ·exact .inl ((h2 x).2 (.inr (.inl hx)))
 rcases h4 with h4 | ⟨y, h4, h6⟩
 ·exact .inl ((h2 x).2 (.inr (.inr (h4 ▸ hx))))
 rw [h4] at hx; simp at hx; exact .inr (by omega)
theorem zxj (h : Col B W rb s S) (n : Nat) (p : Pt) (hp : s.rows[n]? = some p) :
  Calls Tryz.prog 124 #[.pointer (some ⟨rb, 0, none⟩), .int .i64 (n : Int)] W fun e W' => e = .returned (.tuple #[p.val s.comp, .nilIface]) /\ Below W.heap.size W W' := by
 obtain ⟨mb, sv, h1, h2⟩ := h
 exact zrn h1 n p hp
theorem z1j (h : Col B W rb s S) (n : Nat) (p : Pt) (hp : s.rows[n]? = some p) (pl : Pt) (hpl : s.rows[s.rows.length - 1]? = some pl) :
  Calls Tryz.prog 191 #[.pointer (some ⟨rb, 0, none⟩), .int .i64 (n : Int)] W fun e W' => e = .returned (.tuple #[p.val s.comp, .nilIface]) /\ Col B W' rb (s.taken n pl) S /\ St S W W' := by
 obtain ⟨mb, sv, h1, h2⟩ := h
 refine (z6c h1 n p hp pl hpl).mono ?_
 rintro e w ⟨rfl, sv', h3, h4, h5⟩
 refine ⟨rfl, ⟨mb, sv', h3, fun k => ?_⟩, ⟨h5.os, h5.tape, h5.output, h5.size, fun k hk hn => h5.block k hk fun q => hn ((h2 k).2 q)⟩⟩
 rw [h2 k]
 unfold Ft
 rw [h4]
end
end Co
namespace So
open Go.RowKit Go.Shelf Go.Maps
open Go.WideElems (rg)
open Co (I64 zbs zce zaj zfl zcl)
open At (St zqz)
def ptrV : Option Nat -> Value
 | none => .pointer none
 | some b => .pointer (some ⟨b, 0, none⟩)
def ptrD : Option Nat -> DataW Unit
 | none => .nil
 | some b => .lit (.int .i64 (b : Int))
def zcj : Value -> Option (DataW Unit × List MemPlace)
 | .pointer none => some (.nil, [])
 | .pointer (some a) => if a.off = 0 /\ a.spot = none then some (.lit (.int .i64 (a.block : Int)), []) else none
 | _ => none
theorem zhb (x : Option Nat) : zcj (ptrV x) = some (ptrD x, []) := by
 cases x <;> simp [zcj, ptrV, ptrD]
theorem zjj {v : Value} {y : DataW Unit × List MemPlace} (h : zcj v = some y) : ∃ x, v = ptrV x /\ y = (ptrD x, []) := by
 unfold zcj at h
 split at h
 ·cases h; exact ⟨none, rfl, rfl⟩
 ·rename_i a
  split at h
  ·rename_i hc
   obtain ⟨b, o, q⟩ := a
   obtain ⟨rfl, rfl⟩ := hc
   cases h
   exact ⟨some b, rfl, rfl⟩
  cases h
 cases h
theorem zsu {x y : Option Nat} (h : ptrD x = ptrD y) : x = y := by
 cases x <;> cases y <;> simp [ptrD] at h ⊢
 omega
def lk (g : Nat -> Option Nat) (i : Int) : Option Nat := if 0 <= i then g i.toNat else none
theorem zjq (g : Nat -> Option Nat) (n : Nat) : lk g (n : Int) = g n := by simp [lk]
def zhy (D : DataW Unit) (g : Nat -> Option Nat) : Prop := ∀ i, I64 i -> Maps.has D (.int .i64 i) = (lk g i).isSome /\ D.atKey (.int .i64 i) .nil = ptrD (lk g i)
def gput (g : Nat -> Option Nat) (n : Nat) (x : Option Nat) : Nat -> Option Nat := fun m => if m = n then x else g m
theorem zzl (g : Nat -> Option Nat) (n : Nat) (x : Option Nat) (i : Int) : lk (gput g n x) i = if i = (n : Int) then x else lk g i := by
 unfold lk gput
 by_cases h0 : 0 <= i
 ·rw [if_pos h0, if_pos h0]
  by_cases e : i = (n : Int)
  ·subst e; simp
  rw [if_neg e, if_neg (by omega)]
 rw [if_neg h0, if_neg h0, if_neg (by omega)]
theorem zhy.put {D : DataW Unit} {g : Nat -> Option Nat} (hD : Tidy D) (h : zhy D g) (n b : Nat) : zhy (D.put (.int .i64 (n : Int)) (ptrD (some b))) (gput g n (some b)) := by
 intro i hi
 rw [zzl]
 by_cases e : i = (n : Int)
 ·subst e
  rw [if_pos rfl]
  exact ⟨Maps.has_put_same hD.isMap (zfl _) _, Maps.atKey_put_same hD.isMap (zfl _) _ _⟩
 rw [if_neg e, Maps.has_put_other (zcl e), Maps.atKey_put_other (zcl e)]
 exact h i hi
theorem zhy.del {D : DataW Unit} {g : Nat -> Option Nat} (h : zhy D g) (n : Nat) : zhy (D.del (.int .i64 (n : Int))) (gput g n none) := by
 intro i hi
 rw [zzl]
 by_cases e : i = (n : Int)
 ·subst e
  rw [if_pos rfl]
  exact ⟨Maps.has_del_same, Maps.atKey_del_same _⟩
 rw [if_neg e, Maps.has_del_other (zcl e), Maps.atKey_del_other (zcl e)]
 exact h i hi
def PMap (W : World) (mb : Nat) (g : Nat -> Option Nat) : Prop := ∃ D, W.ownsMap Tryz.prog 3 zcj mb (Maps.size D) D /\ zhy D g
theorem zcf {W : World} {mb n : Nat} {D : DataW Unit} (h : W.ownsMap Tryz.prog 3 zcj mb n D) : W.ownsMap Tryz.prog 3 zcj mb (Maps.size D) D := by
 obtain ⟨es, clock, hb, F, _, rfl⟩ := h
 exact ⟨es, clock, hb, F, by simp [Maps.size, length_sorted], rfl⟩
def z8t : Lit -> Nat
 | .int _ x => x.toNat
 | _ => 0
theorem ycs {W : World} {mb n N : Nat} {D : DataW Unit} {g : Nat -> Option Nat} (h : W.ownsMap Tryz.prog 3 zcj mb n D) (hH : zhy D g) (hN : ∀ m b, g m = some b -> m < N) : Maps.size D <= N := by
 obtain ⟨es, clock, hb, F, _, rfl⟩ := h
 have hk := Maps.fit_keys F
 have hap := Maps.fit_apart zbs F
 have e1 : Maps.size (DataW.map ((es.toList.map (rg Tryz.prog 3 zcj)).foldr DataW.insert [])) = (es.toList.map (rg Tryz.prog 3 zcj)).length := by simp [Maps.size, length_sorted]
 have hm : ∀ p ∈ es.toList.map (rg Tryz.prog 3 zcj), ∃ m b, p.1 = .int .i64 ((m : Nat) : Int) /\ g m = some b := by
  intro p hp
  obtain ⟨v, hv⟩ := hk p hp
  obtain ⟨x, _, e, hw⟩ := Maps.keyOf_int_inv Tryz.underlying3 hv
  have h1 := (hH x hw).1
  have h2 : Maps.has (DataW.map ((es.toList.map (rg Tryz.prog 3 zcj)).foldr DataW.insert [])) (.int .i64 x) = true := by
   rw [Maps.has_eq, List.any_eq_true]
   exact ⟨p, Go.mem_sorted.2 hp, by rw [e]; simp [Lit.sameKey]⟩
  rw [h2] at h1
  obtain ⟨b, hb⟩ := Option.isSome_iff_exists.1 h1.symm
  unfold lk at hb
  split at hb
  ·rename_i h0
   exact ⟨x.toNat, b, by rw [e, Int.toNat_of_nonneg h0], hb⟩
  cases hb
 rw [e1]
 generalize es.toList.map (rg Tryz.prog 3 zcj) = L at hap hm
 have hnd : (L.map fun p => z8t p.1).Nodup := by
  rw [List.Nodup, List.pairwise_map]
  refine List.Pairwise.imp_of_mem ?_ hap
  intro p q hp hq hne e
  obtain ⟨m, b, e1, _⟩ := hm p hp
  obtain ⟨m', b', e2, _⟩ := hm q hq
  rw [e1, e2] at hne e
  simp [z8t] at e
  exact hne (by rw [e])
 have := zqz (N := N) hnd fun x hx => by
  obtain ⟨p, hp, rfl⟩ := List.mem_map.1 hx
  obtain ⟨m, b, e1, e2⟩ := hm p hp
  rw [e1]
  simpa [z8t] using hN m b e2
 simpa using this
section
variable {W W' : World} {mb : Nat} {g : Nat -> Option Nat} {t e : TypeId}
theorem PMap.lt (h : PMap W mb g) : mb < W.heap.size := by obtain ⟨D, h1, -⟩ := h; exact h1.lt
theorem PMap.kept {T : Nat -> Prop} (h : PMap W mb g) (hs : St T W W') (hn : ¬ T mb) : PMap W' mb g := by
 obtain ⟨D, ⟨es, cl, hb, q⟩, h2⟩ := h
 exact ⟨D, ⟨es, cl, hs.at hb hn, q⟩, h2⟩
theorem PMap.obj (h : PMap W mb g) : ∃ es cl, W.heap[mb]? = some (.map es cl) := by
 obtain ⟨D, ⟨es, cl, hb, q⟩, h2⟩ := h
 exact ⟨es, cl, hb⟩
theorem PMap.zcg (h : PMap W mb g) {k : Nat} {c : Array Value} {ty : TypeId} {fr : Nat × Nat} (hk : W.heap[k]? = some (.cells c ty fr)) : k ≠ mb := fun q => by
 obtain ⟨es, cl, hb⟩ := h.obj
 rw [q, hb] at hk
 cases hk
theorem znc (W : World) : PMap (W.alloc (.map #[] 0)) W.heap.size (fun _ => none) := by
 refine ⟨.map [], World.ownsMap_made W Tryz.prog 3 zcj, fun i _ => ?_⟩
 have e : lk (fun _ => none) i = none := by unfold lk; split <;> rfl
 rw [e]
 exact ⟨rfl, rfl⟩
theorem PMap.look_ok (h : PMap W mb g) (ht : Tryz.prog.underlying t = some (.map 3 e)) (hz : (zeroValue e).run Tryz.prog W = .ok (.pointer none) W) (i : Int) (hi : I64 i) :
  (Instr.lookup t (.map (some mb)) (.int .i64 i) true).run Tryz.prog W = .ok (.tuple #[ptrV (lk g i), .bool (lk g i).isSome]) W := by
 obtain ⟨D, h1, hH⟩ := h
 obtain ⟨v, ps, hr, hv⟩ := h1.look_ok zbs ht hz (zhb none) (zce i hi)
 obtain ⟨x, rfl, e2⟩ := zjj hv
 rw [show ptrD none = (.nil : DataW Unit) from rfl, (hH i hi).2] at e2
 simp only [Prod.mk.injEq] at e2
 rw [hr, (hH i hi).1, <- zsu e2.1]
theorem PMap.look (h : PMap W mb g) (ht : Tryz.prog.underlying t = some (.map 3 e)) (hz : (zeroValue e).run Tryz.prog W = .ok (.pointer none) W) (i : Int) (hi : I64 i) :
  (Instr.lookup t (.map (some mb)) (.int .i64 i) false).run Tryz.prog W = .ok (ptrV (lk g i)) W := by
 obtain ⟨D, h1, hH⟩ := h
 obtain ⟨v, ps, hr, hv⟩ := h1.lookup zbs ht hz (zhb none) (zce i hi)
 obtain ⟨x, rfl, e2⟩ := zjj hv
 rw [show ptrD none = (.nil : DataW Unit) from rfl, (hH i hi).2] at e2
 simp only [Prod.mk.injEq] at e2
 rw [hr, <- zsu e2.1]
theorem zcd (h : W.mapTurned W' mb) : St (fun k => k = mb) W W' := St.zam h.grown fun k e => by simpa using e.symm
theorem PMap.store (h : PMap W mb g) (ht : Tryz.prog.underlying t = some (.map 3 e)) (hN : ∀ m b, g m = some b -> m < 70000) (n b : Nat) (hn : n <= 100000) :
  ∃ w', (Instr.mapUpdate t (.map (some mb)) (.int .i64 (n : Int)) (.pointer (some ⟨b, 0, none⟩))).run Tryz.prog W = .ok () w' /\ PMap w' mb (gput g n (some b)) /\ St (fun k => k = mb) W w' := by
 obtain ⟨D, h1, hH⟩ := h
 have hs := ycs h1 hH hN
 obtain ⟨w', hr, h2, h3⟩ := h1.store zbs ht (by unfold maxLen; omega) (zce (n : Int) (zaj (by omega) (by omega))) (zhb (some b))
 exact ⟨w', hr, ⟨_, zcf h2, hH.put (h1.tidy zbs) n b⟩, zcd h3⟩
theorem PMap.drop (h : PMap W mb g) (ht : Tryz.prog.underlying t = some (.map 3 e)) (n : Nat) (hn : n <= 100000) (ty : TypeId) :
  ∃ w', (Builtin.delete_ #[t, 3] ty #[.map (some mb), .int .i64 (n : Int)]).run Tryz.prog W = .ok (.tuple #[]) w' /\ PMap w' mb (gput g n none) /\ St (fun k => k = mb) W w' := by
 obtain ⟨D, h1, hH⟩ := h
 obtain ⟨w', hr, h2, h3⟩ := h1.drop zbs ht (zce (n : Int) (zaj (by omega) (by omega))) ty
 exact ⟨w', hr, ⟨_, zcf h2, hH.del n⟩, zcd h3⟩
end
end So
end Go.Proofs.YthadfdbkkmmgoaaGreatDoor
