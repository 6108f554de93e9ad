/- Badges, plainly: numbers with their owners; two maps, each other turned about. -/
import Derived.Test.YtiebbedpjogjfaaDoorKp
import Derived.Maps.OwnSet
import Derived.DeepKeys4
import Derived.Deep.RegionHeld3
import Derived.Deep.RegionLaw
import Derived.Deep.RegionHeldLaw
import Derived.Deep.AppendLies
import Derived.Deep.QuietTactic
import Derived.BigQuiet
import Derived.Maps.RangeWalk
import Derived.Deep.Cut
import Derived.Deep.LoopGhost
import Derived.Deep.RegionWith
namespace Go.Proofs.YtiebbedpjogjfaaDoor.Bd
open Go.RowKit Go.Shelf Go.Maps
theorem Tryd.laidOut : laidOutB Tryd.prog = true := by kernel_rfl
theorem Tryd.size24 : 29 < Tryd.prog.types.size := of_decide_eq_true (by kernel_rfl)
theorem Tryd.wide24 : (match Tryd.prog.underlying 29 with | some (.array _ _) | some (.struct _) => true | _ => false) = true := by rw [Tryd.underlying29]
set_option maxRecDepth 100000 in
theorem keyed24 : Keyed Tryd.prog 29 := Keyed.of_law (deep_law_laid Tryd.laidOut (m := 2) (by omega) Tryd.size24 (by kernel_rfl) Tryd.wide24)
/-- An entity, as a value. -/
def entV (i g : Int) : Value := .agg #[.int .i64 i, .int .i64 g]
/-- An entity's key. -/
def kl (i g : Int) : Lit := .string (keyBytes [.int .i64 i, .int .i64 g])
def I64 (i : Int) : Prop := (Lit.int .i64 i).wf = true
theorem kl_key (i g : Int) : WideAt.IsKeyLit (kl i g) := trivial
theorem keyT24 : Tryd.prog.keyType 29 = true := by kernel_rfl
theorem size128 : Tryd.prog.types.size = 167 := by kernel_rfl
theorem keyS24 : ∃ d, Tryd.prog.types.size + 1 = d + 2 := ⟨166, congrArg (· + 1) size128⟩
theorem cells24 : Tryd.prog.cellsOf 29 = 2 := by kernel_rfl
theorem cells3 : Tryd.prog.cellsOf 3 = 1 := by kernel_rfl
theorem lits3 (d : Nat) (i : Int) (hi : I64 i) : Tryd.prog.keyLits (d + 1) 3 [.int .i64 i] = some [.int .i64 i] := by
  unfold Program.keyLits
  rw [Tryd.underlying3]
  exact if_pos ⟨rfl, hi⟩
theorem flat_lits (i g : Int) : [[Lit.int .i64 i], [Lit.int .i64 g]].flatten = [.int .i64 i, .int .i64 g] := rfl
theorem lits24 (d : Nat) (i g : Int) (hi : I64 i) (hg : I64 g) : Tryd.prog.keyLits (d + 2) 29 [.int .i64 i, .int .i64 g] = some [.int .i64 i, .int .i64 g] := by
  unfold Program.keyLits
  rw [Tryd.underlying29]
  refine (if_pos ⟨by rw [cells24]; rfl, by kernel_rfl⟩).trans ?_
  simp only [List.mapM_cons, List.mapM_nil, cells3, List.drop_zero, List.drop_succ_cons, List.take_succ_cons, List.take_zero, lits3 d i hi, lits3 d g hg]
  rfl
theorem key_ent (i g : Int) (hi : I64 i) (hg : I64 g) : keyOf Tryd.prog 29 (entV i g) = some (kl i g) := by
  obtain ⟨d, hd⟩ := keyS24
  unfold keyOf
  rw [Tryd.underlying29, hd]
  have hf : (entV i g).formed Tryd.prog 29 = true := by
    unfold entV Value.formed
    rw [Tryd.underlying29, cells24]
    rfl
  have hc : (entV i g).cells.toList = [.int .i64 i, .int .i64 g] := rfl
  refine (if_pos (by rw [keyT24, hf]; rfl)).trans ?_
  rw [hc, lits24 d i g hi hg]
  rfl
theorem ent_inj {i g i' g' : Int} (h : entV i g = entV i' g') : i = i' ∧ g = g' := by
  unfold entV at h
  simpa using h
theorem kl_inj {i g i' g' : Int} (hi : I64 i) (hg : I64 g) (hi' : I64 i') (hg' : I64 g') (h : kl i g = kl i' g') : i = i' ∧ g = g' :=
  ent_inj (keyed24.inj (key_ent i g hi hg) (h ▸ key_ent i' g' hi' hg'))
theorem I64_small {n : Int} (h0 : 0 ≤ n) (h1 : n ≤ 1000000) : I64 n := by
  unfold I64 Lit.wf
  simp [IntKind.min, IntKind.max, IntKind.signed, IntKind.bits]
  omega
theorem I64_mid {n : Int} (h0 : -1000000 ≤ n) (h1 : n ≤ 2147483648) : I64 n := by
  unfold I64 Lit.wf
  simp [IntKind.min, IntKind.max, IntKind.signed, IntKind.bits]
  omega
theorem keyed3 : Keyed Tryd.prog 3 := int_keyed Tryd.underlying3
theorem zero3 (w : World) : (zeroValue 3).run Tryd.prog w = .ok (.int .i64 0) w := by kernel_rfl
theorem zeroE (w : World) : (zeroValue 29).run Tryd.prog w = .ok (entV 0 0) w := by kernel_rfl
theorem key_int (i : Int) (h : I64 i) : keyOf Tryd.prog 3 (.int .i64 i) = some (.int .i64 i) := keyOf_int_mk Tryd.underlying3 h
theorem isKeyI (i : Int) : WideAt.IsKeyLit (.int .i64 i) := trivial
theorem key_ne {i j : Int} (h : i ≠ j) : (Lit.int .i64 i) ≠ .int .i64 j := fun e => h (by simpa using e)
/-- Numbers with their owners. -/
abbrev Prs := List (Int × Int × Int)
def who (l : Prs) (id : Int) : Option (Int × Int) := (l.find? fun x => x.1 == id).map (·.2)
def num (l : Prs) (e : Int × Int) : Option Int := (l.find? fun x => x.2 == e).map (·.1)
/-- A pair more, by rising numbers. -/
def ins (p : Int × Int × Int) : Prs → Prs
  | [] => [p]
  | x :: l => if p.1 < x.1 then p :: x :: l else x :: ins p l
def del (id : Int) (l : Prs) : Prs := l.filter fun x => !(x.1 == id)
/-- Nobody has two numbers, no number two owners; numbers rise. -/
structure okP (n : Int) (l : Prs) : Prop where
  rise : l.Pairwise (fun x y => x.1 < y.1)
  one : l.Pairwise (fun x y => x.2 ≠ y.2)
  low : ∀ x ∈ l, 1 ≤ x.1 ∧ x.1 < n
  i64 : ∀ x ∈ l, I64 x.2.1 ∧ I64 x.2.2
  next : 1 ≤ n ∧ n ≤ 1073741825
theorem okP.nil : okP 1 [] := ⟨.nil, .nil, fun x hx => by simp at hx, fun x hx => by simp at hx, by omega⟩
theorem mem_ins {p x : Int × Int × Int} : ∀ {l : Prs}, x ∈ ins p l ↔ x = p ∨ x ∈ l
  | [] => by simp [ins]
  | y :: l => by
    unfold ins
    split
    · simp
    · rw [List.mem_cons, mem_ins, List.mem_cons]
      constructor
      · rintro (h | h | h)
        · exact .inr (.inl h)
        · exact .inl h
        · exact .inr (.inr h)
      · rintro (h | h | h)
        · exact .inr (.inl h)
        · exact .inl h
        · exact .inr (.inr h)
theorem ins_len (p : Int × Int × Int) : ∀ l : Prs, (ins p l).length = l.length + 1
  | [] => rfl
  | y :: l => by
    unfold ins
    split
    · simp
    · simp [ins_len p l]
theorem ins_rise {p : Int × Int × Int} : ∀ {l : Prs}, l.Pairwise (fun x y => x.1 < y.1) → (∀ x ∈ l, x.1 ≠ p.1) → (ins p l).Pairwise (fun x y => x.1 < y.1)
  | [], _, _ => by simp [ins]
  | y :: l, h, hn => by
    have h1 := List.pairwise_cons.1 h
    have hy := hn y (List.mem_cons_self ..)
    unfold ins
    split
    · rename_i hlt
      refine List.pairwise_cons.2 ⟨fun x hx => ?_, h⟩
      rcases List.mem_cons.1 hx with rfl | hx
      · exact hlt
      · have := h1.1 x hx; omega
    · rename_i hlt
      refine List.pairwise_cons.2 ⟨fun x hx => ?_, ins_rise h1.2 fun x hx => hn x (List.mem_cons_of_mem _ hx)⟩
      rcases mem_ins.1 hx with rfl | hx
      · omega
      · exact h1.1 x hx
theorem ins_one {p : Int × Int × Int} : ∀ {l : Prs}, l.Pairwise (fun x y => x.2 ≠ y.2) → (∀ x ∈ l, x.2 ≠ p.2) → (ins p l).Pairwise (fun x y => x.2 ≠ y.2)
  | [], _, _ => by simp [ins]
  | y :: l, h, hn => by
    have h1 := List.pairwise_cons.1 h
    have hy := hn y (List.mem_cons_self ..)
    unfold ins
    split
    · refine List.pairwise_cons.2 ⟨fun x hx => ?_, h⟩
      exact fun e => hn x hx e.symm
    · refine List.pairwise_cons.2 ⟨fun x hx => ?_, ins_one h1.2 fun x hx => hn x (List.mem_cons_of_mem _ hx)⟩
      rcases mem_ins.1 hx with rfl | hx
      · exact hy
      · exact h1.1 x hx
theorem find_iff {α : Type} [BEq α] [LawfulBEq α] {l : Prs} (f : Int × Int × Int → α) (hp : l.Pairwise (fun x y => f x ≠ f y)) (a : α) (x : Int × Int × Int) : l.find? (fun y => f y == a) = some x ↔ x ∈ l ∧ f x = a := by
  induction l with
  | nil => simp
  | cons y l ih =>
    have h1 := List.pairwise_cons.1 hp
    rw [List.find?_cons]
    by_cases e : f y = a
    · have : (f y == a) = true := by simpa using e
      rw [this]
      simp only [Option.some.injEq, List.mem_cons]
      constructor
      · rintro rfl; exact ⟨.inl rfl, e⟩
      · rintro ⟨rfl | hx, h2⟩
        · rfl
        · exact absurd (e.trans h2.symm) (h1.1 x hx)
    · have : (f y == a) = false := by simpa using e
      rw [this]
      simp only [List.mem_cons]
      rw [ih h1.2]
      constructor
      · rintro ⟨h2, h3⟩; exact ⟨.inr h2, h3⟩
      · rintro ⟨rfl | hx, h2⟩
        · exact absurd h2 e
        · exact ⟨hx, h2⟩
section
variable {n : Int} {l : Prs}
theorem okP.who (h : okP n l) (id : Int) (e : Int × Int) : Bd.who l id = some e ↔ (id, e) ∈ l := by
  unfold Bd.who
  rw [Option.map_eq_some_iff]
  constructor
  · rintro ⟨x, hx, rfl⟩
    obtain ⟨h1, rfl⟩ := (find_iff (fun x => x.1) (h.rise.imp fun q e => by omega) id x).1 hx
    exact h1
  · intro h1
    exact ⟨(id, e), (find_iff (fun x => x.1) (h.rise.imp fun q e => by omega) id (id, e)).2 ⟨h1, rfl⟩, rfl⟩
theorem okP.num (h : okP n l) (id : Int) (e : Int × Int) : Bd.num l e = some id ↔ (id, e) ∈ l := by
  unfold Bd.num
  rw [Option.map_eq_some_iff]
  constructor
  · rintro ⟨x, hx, rfl⟩
    obtain ⟨h1, rfl⟩ := (find_iff (fun x => x.2) h.one e x).1 hx
    exact h1
  · intro h1
    exact ⟨(id, e), (find_iff (fun x => x.2) h.one e (id, e)).2 ⟨h1, rfl⟩, rfl⟩
theorem okP.add (h : okP n l) {m : Int} (hm : n ≤ m ∧ m ≤ 1073741825) {id i g : Int} (hid : 1 ≤ id ∧ id < m) (hi : I64 i) (hg : I64 g) (h1 : Bd.who l id = none) (h2 : Bd.num l (i, g) = none) : okP m (ins (id, i, g) l) where
  rise := ins_rise h.rise fun x hx e => by
    have e : x.1 = id := e
    have := (h.who id x.2).2 (by rw [← e]; exact hx)
    rw [h1] at this
    cases this
  one := ins_one h.one fun x hx e => by
    have := (h.num x.1 (i, g)).2 (by have : x.2 = (i, g) := e; rw [← this]; exact hx)
    rw [h2] at this
    cases this
  low := fun x hx => by
    rcases mem_ins.1 hx with rfl | hx
    · exact hid
    · have := h.low x hx; omega
  i64 := fun x hx => by
    rcases mem_ins.1 hx with rfl | hx
    · exact ⟨hi, hg⟩
    · exact h.i64 x hx
  next := by have := h.next; omega
theorem okP.del (h : okP n l) (id : Int) : okP n (Bd.del id l) where
  rise := h.rise.filter _
  one := h.one.filter _
  low := fun x hx => h.low x (List.mem_filter.1 hx).1
  i64 := fun x hx => h.i64 x (List.mem_filter.1 hx).1
  next := h.next
theorem okP.turn (h : okP n l) {m : Int} (hm : 1 ≤ m ∧ m ≤ 1073741825) (ha : ∀ x ∈ l, x.1 < m) : okP m l := ⟨h.rise, h.one, fun x hx => ⟨(h.low x hx).1, ha x hx⟩, h.i64, hm⟩
theorem mem_del {id : Int} {x : Int × Int × Int} : x ∈ Bd.del id l ↔ x ∈ l ∧ x.1 ≠ id := by
  unfold Bd.del
  rw [List.mem_filter]
  simp
theorem opt_ext {α : Type} {a b : Option α} (h : ∀ x, a = some x ↔ b = some x) : a = b := by
  cases a with
  | none =>
    cases b with
    | none => rfl
    | some y => exact absurd ((h y).2 rfl) (by simp)
  | some x => exact ((h x).1 rfl).symm
theorem okP.who_add (h : okP n l) {m id i g : Int} (hk : okP m (ins (id, i, g) l)) (h1 : Bd.who l id = none) (id' : Int) : Bd.who (ins (id, i, g) l) id' = if id' = id then some (i, g) else Bd.who l id' := by
  refine opt_ext fun x => ?_
  rw [hk.who, mem_ins]
  by_cases e : id' = id
  · subst e
    rw [if_pos rfl]
    constructor
    · rintro (h2 | h2)
      · simp only [Prod.mk.injEq, true_and] at h2
        rw [h2]
      · have := (h.who id' x).2 h2
        rw [h1] at this
        cases this
    · intro h2
      obtain rfl : (i, g) = x := by simpa using h2
      exact .inl rfl
  · rw [if_neg e, h.who]
    constructor
    · rintro (h2 | h2)
      · simp only [Prod.mk.injEq] at h2
        exact absurd h2.1 e
      · exact h2
    · exact .inr
theorem okP.num_add (h : okP n l) {m id i g : Int} (hk : okP m (ins (id, i, g) l)) (h1 : Bd.num l (i, g) = none) (e' : Int × Int) : Bd.num (ins (id, i, g) l) e' = if e' = (i, g) then some id else Bd.num l e' := by
  refine opt_ext fun x => ?_
  rw [hk.num, mem_ins]
  by_cases e : e' = (i, g)
  · subst e
    rw [if_pos rfl]
    constructor
    · rintro (h2 | h2)
      · simp only [Prod.mk.injEq, and_true] at h2
        rw [h2]
      · have := (h.num x (i, g)).2 h2
        rw [h1] at this
        cases this
    · intro h2
      obtain rfl : id = x := by simpa using h2
      exact .inl rfl
  · rw [if_neg e, h.num]
    constructor
    · rintro (h2 | h2)
      · simp only [Prod.mk.injEq] at h2
        exact absurd h2.2 e
      · exact h2
    · exact .inr
theorem okP.who_del (h : okP n l) (id id' : Int) : Bd.who (Bd.del id l) id' = if id' = id then none else Bd.who l id' := by
  refine opt_ext fun x => ?_
  rw [(h.del id).who, mem_del]
  by_cases e : id' = id
  · rw [if_pos e]
    simp [e]
  · rw [if_neg e, h.who]
    simp [e]
theorem okP.num_del (h : okP n l) {id : Int} {e : Int × Int} (hw : Bd.who l id = some e) (e' : Int × Int) : Bd.num (Bd.del id l) e' = if e' = e then none else Bd.num l e' := by
  have hm := (h.who id e).1 hw
  refine opt_ext fun x => ?_
  rw [(h.del id).num, mem_del]
  by_cases q : e' = e
  · rw [if_pos q]
    subst q
    constructor
    · rintro ⟨h1, h2⟩
      have e1 := (h.num x e').2 h1
      have e2 := (h.num id e').2 hm
      rw [e1] at e2
      exact absurd (by simpa using e2) h2
    · intro h1; cases h1
  · rw [if_neg q, h.num]
    constructor
    · exact fun h1 => h1.1
    · intro h1
      refine ⟨h1, fun h2 => q ?_⟩
      have h2 : x = id := h2
      subst h2
      have e1 := (h.who x e').2 h1
      rw [hw] at e1
      simpa using e1.symm
theorem del_len (h : okP n l) {id : Int} {e : Int × Int} (hw : Bd.who l id = some e) : (Bd.del id l).length + 1 = l.length := by
  have hm := (h.who id e).1 hw
  have hp := h.rise
  clear hw h
  induction l with
  | nil => simp at hm
  | cons y l ih =>
    have h1 := List.pairwise_cons.1 hp
    unfold Bd.del
    rcases List.mem_cons.1 hm with rfl | hm
    · have : l.filter (fun x => !(x.1 == id)) = l := List.filter_eq_self.2 fun x hx => by
        have := h1.1 x hx
        simp
        omega
      simp [this]
    · have := h1.1 _ hm
      have i2 := ih hm h1.2
      unfold Bd.del at i2
      have this : y.1 < id := this
      have e1 : (!(y.1 == id)) = true := by simp; omega
      simp only [List.filter_cons, e1, if_true, List.length_cons]
      omega
theorem okP.few (h : okP n l) : l.length ≤ 1073741824 := by
  have hn := h.next
  have hnd : (l.map fun x => x.1.toNat).Nodup := by
    rw [List.Nodup, List.pairwise_map]
    refine List.Pairwise.imp_of_mem (fun {x y} hx hy q e => ?_) h.rise
    have := (h.low x hx).1
    omega
  have := hnd.length_le_of_subset (l₂ := List.range' 1 1073741824) fun x hx => by
    obtain ⟨y, hy, rfl⟩ := List.mem_map.1 hx
    have := h.low y hy
    rw [List.mem_range'_1]
    omega
  simpa using this
end
end Go.Proofs.YtiebbedpjogjfaaDoor.Bd
