/- Texts in one. -/
import Derived.Deep.AppendSrc
import Derived.Deep.Onto
import Derived.Deep.RegionHeld3
import Derived.Deep.AppendLies
import Derived.Deep.DrawnRows
import Derived.Deep.Cut
import Derived.Test.YtoafpfheopgdkaaGreatDoorMah
namespace Go.Proofs.YtoafpfheopgdkaaGreatDoor.So
open Go.RowKit Go.Shelf Go.Maps
open Go.Proofs.YtoafpfheopgdkaaGreatDoor.At (St bAl cell_blk blk_seen blk_free)
open Go.Proofs.YtoafpfheopgdkaaGreatDoor.Ro (Ents entCells entCells_len)
set_option maxHeartbeats 1600000 in
set_option maxRecDepth 100000 in
theorem ins_none (v fv : Value) (W : World) : Calls Tryz.prog 128 #[v, .int .i64 0, .int .i64 0, fv] W fun e W' => e = .returned (.tuple #[]) ∧ W' = W := by
  go_enter Tryz.func128, Tryz.ntmps128
  go_wp2_with fail
  go_loop [8] (fun i => i = .int .i64 1) (fun _ => 0)
  case atStart => rfl
  case round =>
    obtain rfl := hrel
    go_wp2_with fail
    go_end0
    exact ⟨rfl, rfl⟩
set_option maxHeartbeats 1600000 in
set_option maxRecDepth 100000 in
theorem pdq_none (v fv lv : Value) (W : World) : Calls Tryz.prog 113 #[v, .int .i64 0, .int .i64 0, lv, fv] W fun e W' => e = .returned (.tuple #[]) ∧ W' = W := by
  have IN := hid (ins_none v fv)
  go_enter Tryz.func113, Tryz.ntmps113
  go_wp2_with fail
  go_loop [1, 2] (fun a b => a = .int .i64 0 ∧ b = .int .i64 0) (fun _ _ => 0)
  case atStart => exact ⟨rfl, rfl⟩
  case round =>
    obtain ⟨rfl, rfl⟩ := hrel
    go_wp2_with (go_at_call 128; refine (IN.out _).mono ?_; rintro e w' ⟨rfl, hq⟩; obtain rfl := hq.symm)
    exact bodyPost_ret (v := .tuple #[]) (by simp [results, Tryz.results113, go_sem]) rfl ⟨rfl, rfl⟩
theorem len_zero (W : World) : ∃ r : Int, Calls Tryz.prog 60 #[.int .u64 0] W fun e W' => e = .returned (.int .i64 r) ∧ W' = W :=
  ⟨_, Any.bits_Len (SlLaysF0.n15.bits (P := Tryz.prog) (ρ := Tryz.sortEnt_ren) { Tryz.sortEnt with }) 0 W (by omega) (by omega)⟩
set_option maxHeartbeats 1600000 in
set_option maxRecDepth 100000 in
theorem sort_nil (fv : Value) (W : World) : Calls Tryz.prog 83 #[.slice none 0 0, fv] W fun e W' => e = .returned (.tuple #[]) ∧ W' = W := by
  obtain ⟨r, hr⟩ := len_zero W
  have LN := hid hr
  have PQ := hid (pdq_none (.slice none 0 0) fv (.int .i64 r))
  clear hr
  go_enter Tryz.func83, Tryz.ntmps83
  go_wp2_with (first | (go_at_call 60; refine LN.out.mono ?_; rintro e w' ⟨rfl, hq⟩; obtain rfl := hq.symm) | (go_at_call 113; refine (PQ.out _).mono ?_; rintro e w' ⟨rfl, hq⟩; obtain rfl := hq.symm))
  go_end0
  exact ⟨rfl, rfl⟩
/-- A row of entities, sorted. -/
theorem sort_any {N : Nat} {W : World} {v : Value} {l : List (Nat × Nat)} (h : Ents N W v l) (hl : l.length ≤ 1000) :
    Calls Tryz.prog 83 #[v, .func (.func 84) #[] #[]] W fun e W' => e = .returned (.tuple #[]) ∧ ∃ l', l'.Perm l ∧ l'.Pairwise (fun x y => x.1 ≤ y.1) ∧ Ents N W' v l' ∧ St (fun k => v.ownBlock = some k) W W' := by
  rcases h.2 with ⟨rfl, h0⟩ | ⟨g, cap, cur, rfl, -⟩
  · refine (sort_nil _ W).mono ?_
    rintro e W' ⟨rfl, rfl⟩
    obtain rfl := List.length_eq_zero_iff.1 h0
    exact ⟨rfl, [], List.Perm.refl _, List.Pairwise.nil, h, St.of_below (Below.refl _ _)⟩
  · refine (sort_ents h hl).mono ?_
    rintro e W' ⟨rfl, l', h1, h2, h3, h4⟩
    exact ⟨rfl, l', h1, h2, h3, ⟨h4.os, h4.tape, h4.output, h4.size, fun k hk hn => h4.block k hk fun e => hn (by rw [e]; rfl)⟩⟩
end Go.Proofs.YtoafpfheopgdkaaGreatDoor.So
namespace Go.Proofs.YtoafpfheopgdkaaGreatDoor.So
open Go.RowKit Go.Shelf Go.Maps
open Go.Proofs.YtoafpfheopgdkaaGreatDoor.Co (I64 I64_mid)
open Go.Proofs.YtoafpfheopgdkaaGreatDoor.At (St bAl cell_blk blk_seen blk_free few_of)
open Go.Proofs.YtoafpfheopgdkaaGreatDoor.Ro (Ents entCells entCells_len infoEnt)
open Go.Proofs.YtoafpfheopgdkaaGreatDoor.Rs (SD)
theorem ent_one (l : List (Nat × Nat)) : ∀ u ∈ entCells l, u.oneCell' = true := by
  intro u hu
  simp only [entCells, List.mem_flatMap] at hu
  obtain ⟨p, _, hp⟩ := hu
  simp [Ro.gI] at hp
  rcases hp with rfl | rfl <;> rfl
theorem entCells_app (l m : List (Nat × Nat)) : entCells (l ++ m) = entCells l ++ entCells m := by simp [entCells]
theorem run_ents {B N : Nat} {wc : World} {v sv : Value} {xs ns : List (Nat × Nat)} (hown : Ents N wc v xs) (hsrc : Ents B wc sv ns) (hl : xs.length + ns.length ≤ 2000) (hN : N ≤ wc.heap.size) (ty : TypeId) :
    ∃ v' w', (Builtin.append_ #[76, 76] ty #[v, sv]).run Tryz.prog wc = .ok v' w' ∧ Ents N w' v' (xs ++ ns) ∧ wc.grownBy w' v.ownBlock := by
  obtain ⟨i0, hi, hz0, hz1, hz2⟩ := info_parts infoEnt
  rcases hsrc.2 with ⟨h1, h2⟩ | ⟨g, cap, cur, h1, h2, h3, h4, h5, h6, h7⟩
  · have hn : ns = [] := List.eq_nil_of_length_eq_zero h2
    subst hn
    rw [h1]
    refine ⟨v, wc, run_append_owned_none wc N 76 ty 58 i0 2 Tryz.underlying76 hi v xs.length (entCells xs) hown, by rw [List.append_nil]; exact hown, ⟨rfl, rfl, rfl, Nat.le_refl _, fun _ _ _ => rfl⟩⟩
  · rw [h1]
    have hc := hsrc
    rw [h1] at hc
    obtain ⟨v', w', hr, h8, h9, -, -⟩ := run_append_own_at (P := Tryz.prog) wc N 76 ty 58 i0 (.agg #[.int .i64 0, .int .i64 0]) 2 16 Tryz.underlying76 hi hz0 hz1 hz2 rfl (by decide) v xs.length (entCells xs) hown ⟨g, 0, none⟩ ns.length cap (entCells ns) (entCells_len ns) (fun j u hu => by
      rw [add_at]
      have hj : j < ns.length * 2 := by have := (List.getElem?_eq_some_iff.1 hu).1; rw [entCells_len] at this; exact this
      rw [World.ownsRow.cellAt hc j hj]; exact hu) (ent_one ns) (by unfold maxLen; omega) (by omega) hN
    refine ⟨v', w', hr, ?_, h9⟩
    show World.ownsRow _ _ _ _ _ _ _
    rw [entCells_app, List.length_append]
    exact h8
theorem wpList_ents {ops : Array Oper} {rest : List Oper} {o : Oper} {a : Act} {Q : Exit → Act → World → Prop} (hgd : o.guard = none) (s x : Operand)
    (ho : o.op = .call { callee := .builtin .append, args := #[s, x], argTypes := #[76, 76] }) {B N : Nat} {wc : World} {v sv : Value} {xs ns : List (Nat × Nat)} (hown : Ents N wc v xs) (hsrc : Ents B wc sv ns) (hl : xs.length + ns.length ≤ 2000) (hN : N ≤ wc.heap.size) (hs : a.eval s = v) (hx : a.eval x = sv)
    (h : ∀ v' w4, Hid (Ents N w4 v' (xs ++ ns)) → Hid (wc.grownBy w4 v.ownBlock) → wpList Tryz.prog ops Q rest (a.put o.dst v') w4) :
    wpList Tryz.prog ops Q (o :: rest) a wc := by
  refine wpList_plain hgd fun K hK => ?_
  obtain ⟨v', w', hr, h2, h3⟩ := run_ents hown hsrc hl hN o.type
  unfold Oper.wp
  simp [execOp, ho, resolve, invoke, builtin, hs, hx, hr, Result.andThen]
  exact hK _ _ (h v' w' h2 h3)
/-- What is gathered so far. -/
structure Gt (tab : Nat → Option (List (Nat × Nat))) (mt : Nat → List (Nat × Nat)) (left : Lit → Bool) (l : List (Nat × Nat)) : Prop where
  mem : ∀ x, x ∈ l ↔ ∃ n own, tab n = some own ∧ left (.int .i64 (n : Int)) = false ∧ x ∈ mt n
  ap : l.Pairwise (fun x y => x.1 ≠ y.1)
/-- What is meant of each table. -/
structure Mn (tab : Nat → Option (List (Nat × Nat))) (mt : Nat → List (Nat × Nat)) : Prop where
  sub : ∀ n own, tab n = some own → ∀ x ∈ mt n, x ∈ own
  ap : ∀ n own, tab n = some own → (mt n).Pairwise (fun x y => x.1 ≠ y.1)
  one : ∀ n own n' own', tab n = some own → tab n' = some own' → ∀ x ∈ own, ∀ y ∈ own', x.1 = y.1 → n = n'
theorem Gt.step {tab : Nat → Option (List (Nat × Nat))} {mt : Nat → List (Nat × Nat)} {left : Lit → Bool} {l : List (Nat × Nat)} (hm : Mn tab mt) (h : Gt tab mt left l) {n : Nat} {own : List (Nat × Nat)} (hn : tab n = some own) (hl : left (.int .i64 (n : Int)) = true) : Gt tab mt (fun z => left z && !z.sameKey (.int .i64 (n : Int))) (l ++ mt n) := by
  refine ⟨fun x => ?_, List.pairwise_append.2 ⟨h.ap, hm.ap n own hn, fun x hx y hy e => ?_⟩⟩
  · rw [List.mem_append, h.mem x]
    constructor
    · rintro (⟨k, o, e1, e2, e3⟩ | hx)
      · exact ⟨k, o, e1, by simp [e2], e3⟩
      · exact ⟨n, own, hn, by simp [Lit.sameKey], hx⟩
    · rintro ⟨k, o, e1, e2, e3⟩
      by_cases e : k = n
      · subst e; exact .inr e3
      · refine .inl ⟨k, o, e1, ?_, e3⟩
        have : (Lit.int .i64 (k : Int)).sameKey (.int .i64 (n : Int)) = false := by simp [Lit.sameKey]; omega
        simpa [this] using e2
  · obtain ⟨k, o, e1, e2, e3⟩ := (h.mem x).1 hx
    obtain rfl := hm.one k o n own e1 hn x (hm.sub k o e1 x e3) y (hm.sub n own hn y hy) e
    rw [e2] at hl
    cases hl
theorem Gt.few {tab : Nat → Option (List (Nat × Nat))} {mt : Nat → List (Nat × Nat)} {left : Lit → Bool} {l : List (Nat × Nat)} {N : Nat} (hm : Mn tab mt) (h : Gt tab mt left l) (hN : ∀ n own, tab n = some own → ∀ x ∈ own, x.1 < N) : l.length ≤ N := by
  have hnd : (l.map fun x => x.1).Nodup := by rw [List.Nodup, List.pairwise_map]; exact h.ap
  have := few_of (N := N) hnd fun x hx => by
    obtain ⟨p, hp, rfl⟩ := List.mem_map.1 hx
    obtain ⟨k, o, e1, e2, e3⟩ := (h.mem p).1 hp
    exact hN k o e1 p (hm.sub k o e1 p e3)
  simpa using this
theorem Mn.of {ex : Option Nat} {tab : Nat → Option (List (Nat × Nat))} {seat : List (Nat × Nat)} {s : SD} {mt : Nat → List (Nat × Nat)} (h : Lk ex tab seat s) (hsub : ∀ n own, tab n = some own → (mt n).Sublist own) : Mn tab mt := by
  have one : ∀ n own n' own', tab n = some own → tab n' = some own' → ∀ x ∈ own, ∀ y ∈ own', x.1 = y.1 → n = n' := fun n own n' own' h1 h2 x hx y hy e => by
    obtain ⟨j, hj⟩ := List.getElem?_of_mem hx
    obtain ⟨j', hj'⟩ := List.getElem?_of_mem hy
    obtain ⟨a, b⟩ := x
    obtain ⟨a', b'⟩ := y
    change a = a' at e
    subst e
    exact (h.one h1 h2 hj hj').1
  refine ⟨fun n own hn x hx => (hsub n own hn).subset hx, fun n own hn => List.Pairwise.sublist (hsub n own hn) ?_, one⟩
  rw [List.pairwise_iff_getElem]
  intro i j hi hj hij e
  have e1 := List.getElem?_eq_getElem hi
  have e2 := List.getElem?_eq_getElem hj
  generalize own[i] = x at e e1
  generalize own[j] = y at e e2
  obtain ⟨a, b⟩ := x
  obtain ⟨a', b'⟩ := y
  change a = a' at e
  subst e
  have := (h.one hn hn e1 e2).2
  omega
end Go.Proofs.YtoafpfheopgdkaaGreatDoor.So
namespace Go.Proofs.YtoafpfheopgdkaaGreatDoor.So
open Go.RowKit Go.Shelf Go.Maps
open Go.Proofs.YtoafpfheopgdkaaGreatDoor.Co (I64 I64_mid keyed3)
open Go.Proofs.YtoafpfheopgdkaaGreatDoor.At (St bAl cell_blk blk_seen blk_free few_of)
open Go.Proofs.YtoafpfheopgdkaaGreatDoor.Ro (Ents entCells entCells_len)
open Go.Proofs.YtoafpfheopgdkaaGreatDoor.Rs (SD)
/-- A store that is not there. -/
theorem gather_nil (fv : Value) (W : World) : Calls Tryz.prog 53 #[.pointer none, fv] W fun e W' => e = .returned (.slice none 0 0) ∧ W' = W := by
  go_enter Tryz.func53, Tryz.ntmps53
  go_wp2_with fail
  go_ret
  exact ⟨rfl, rfl⟩
/-- The table that comes next. -/
theorem next_tab {D : DataW Unit} {tab : Nat → Option (List (Nat × Nat))} {tv : Nat → TV} (hH : PHolds D (tabMap tab tv)) {x : Int} {kl : Lit} {o : Option Nat} {y : DataW Unit × List MemPlace} (hk : keyOf Tryz.prog 3 (.int .i64 x) = some kl) (hR : ptrElem (ptrV o) = some y) (hat : ∀ zd, D.atKey kl zd = y.1) :
    ∃ (n : Nat) (own : List (Nat × Nat)), kl = .int .i64 (n : Int) ∧ x = (n : Int) ∧ tab n = some own ∧ o = some (tv n).tb := by
  obtain ⟨x', e1, rfl, hw⟩ := Maps.keyOf_int_inv Tryz.underlying3 hk
  obtain rfl : x = x' := by simpa using e1
  obtain ⟨h1, h2⟩ := hH x hw
  rw [has_true_of_atKey hat] at h1
  rw [hat .nil] at h2
  rw [ptrElem_mk] at hR
  obtain rfl : (ptrD o, []) = y := by simpa using hR
  have e3 := ptrD_inj h2
  obtain ⟨b, hb⟩ := Option.isSome_iff_exists.1 h1.symm
  rw [hb] at e3
  unfold lk at hb
  split at hb
  · rename_i h0
    unfold tabMap at hb
    cases ht : tab x.toNat with
    | none => rw [ht] at hb; cases hb
    | some own =>
      rw [ht] at hb
      have hx : x = (x.toNat : Int) := by omega
      refine ⟨x.toNat, own, by rw [← hx], hx, ht, ?_⟩
      rw [e3]
      exact hb.symm
  · cases hb
set_option maxHeartbeats 3200000 in
set_option maxRecDepth 100000 in
theorem gather_any (fk : Nat) (lb : Array Value) (eg : ∀ args w, (callFunc fk args).run Tryz.prog w = .ok (.enter fk args) w) {B : Nat} {W : World} {sb : Nat} {c : CV} {s : SD} (h : Sto none B W sb c s) (mt : Nat → List (Nat × Nat)) (hmt : ∀ n own, c.tab n = some own → (mt n).Sublist own)
    (HC : ∀ n own, c.tab n = some own → ∀ W', Below W.heap.size W W' → Calls Tryz.prog fk (#[.pointer (some ⟨(c.tv n).tb, 0, none⟩)] ++ lb) W' fun e W2 => ∃ v, e = .returned v ∧ Ents 0 W2 v (mt n) ∧ Below W'.heap.size W' W2) :
    Calls Tryz.prog 53 #[.pointer (some ⟨sb, 0, none⟩), .func (.func fk) #[] lb] W fun e W' => ∃ v l, e = .returned v ∧ Ents W.heap.size W' v l ∧ l.Pairwise (fun x y => x.1 < y.1) ∧ (∀ x, x ∈ l ↔ ∃ n own, c.tab n = some own ∧ x ∈ mt n) ∧ Below W.heap.size W W' := by
  have c2 := h.c2
  obtain ⟨D, hown, hH⟩ := h.map
  have MN := hid (Mn.of h.lk hmt)
  have htm := hown.lt
  have HN : Hid (∀ n own, c.tab n = some own → ∀ x ∈ own, x.1 < 64) := fun n own hn x hx => by
    obtain ⟨j, hj⟩ := List.getElem?_of_mem hx
    obtain ⟨a, b⟩ := x
    have q := al_lt ((h.lk.back n own hn).2 j a b hj).1
    have := h.rol.small
    show a < 64
    omega
  have G0 : Hid (Gt c.tab mt (Maps.has D) []) := ⟨fun x => ⟨fun q => by simp at q, fun ⟨n, own, e1, e2, e3⟩ => by
    obtain ⟨m, e4, -⟩ := h.tabs n own e1
    have hn := (List.getElem?_eq_some_iff.1 e4).1
    have hs := At.AS.ok.small h.atl.ok
    have hs' : s.sets.length ≤ 65536 := hs
    have := (hH (n : Int) (I64_mid (by omega) (by omega))).1
    rw [e2, lk_nat] at this
    unfold tabMap at this
    rw [e1] at this
    cases this⟩, List.Pairwise.nil⟩
  have HH := hid hH
  have HCC := hid HC
  obtain ⟨nn, hnn⟩ : ∃ nn, nn = Maps.size D := ⟨_, rfl⟩
  rw [← hnn] at hown
  clear h HC hmt hH hnn
  go_enter Tryz.func53, Tryz.ntmps53
  go_wp2_with (first
    | (at_range; refine wpList_range_own _ rfl _ 89 rfl 3 124 keyed3 Tryz.underlying89 ptrElem c.tm nn D rfl hown ?_; intro w0 hrg0 hg0 hs0)
    | fail)
  go_frame
  have B0 : Hid (Below W.heap.size W w0) := ⟨hg0.os, hg0.tape, hg0.output, hg0.size, fun k hk => hg0.block k hk (by simp)⟩
  have hsz0 : W.heap.size + 1 ≤ w0.heap.size := by omega
  have RG0 := hid hrg0
  clear hrg0 hg0 hs0 hown c2
  go_loopg [5, 7] (Maps.size D) (fun gh lv _ wr => ∃ (left : Lit → Bool) (l : List (Nat × Nat)), Hid (wr.ranges Tryz.prog 3 ptrElem c.tm W.heap.size nn D left gh) ∧ Hid (Ents (W.heap.size + 1) wr lv l) ∧ Hid (Gt c.tab mt left l) ∧ Hid (Below W.heap.size W wr) ∧ W.heap.size + 1 ≤ wr.heap.size)
  case atStart => exact ⟨_, [], RG0.out, World.ownsRow_nil _ _ _ _, G0.out, B0.out, hsz0⟩
  case round =>
    obtain ⟨left, l, HR, HE, HG, HB, hsz⟩ := hrel
    have hrg := HR.out
    go_wp2_with (first
      | (at_next; refine wpList_next_ranges _ rfl _ rfl 3 keyed3 ptrElem (Value.int .i64) ptrV (fun key kl hkey => by obtain ⟨x, rfl, _⟩ := Maps.keyOf_int_inv Tryz.underlying3 hkey; exact ⟨x, rfl⟩) (fun v y hv => by obtain ⟨x, rfl, _⟩ := ptrElem_inv hv; exact ⟨x, rfl⟩) c.tm W.heap.size nn D left _ rfl hrg ?_ ?_)
      | fail)
    · intro hc0 hl0
      have GE := HG.out
      have hl64 := GE.few MN.out HN.out
      have SRT := hid (sort_any HE.out (by omega))
      have HL0 := hid hl0
      clear hrg hl0 hc0 GE
      go_wp2_with (go_at_call 83; refine SRT.out.mono ?_; rintro e w2 ⟨rfl, l', p1, p2, p3, p4⟩)
      go_ret
      refine ⟨_, l', rfl, World.ownsRow.mono p3 (Nat.le_succ _), ?_, fun x => ?_, ?_⟩
      · have hap : l'.Pairwise (fun x y => x.1 ≠ y.1) := (p1.pairwise_iff (fun q => Ne.symm q)).2 HG.out.ap
        exact (p2.and hap).imp fun ⟨q1, q2⟩ => by omega
      · rw [p1.mem_iff, HG.out.mem x]
        exact ⟨fun ⟨n, own, e1, _, e3⟩ => ⟨n, own, e1, e3⟩, fun ⟨n, own, e1, e3⟩ => ⟨n, own, e1, HL0.out _, e3⟩⟩
      · exact HB.out.trans (p4.below (B := W.heap.size) (fun k hk => by have := (World.ownsRow.lt HE.out k hk).1; omega) (by omega))
    · intro x o kl y ps w1 cnt1 hkey hleft hR hat hrg1 hlt hg1 hs1 hen
      obtain ⟨n, own, rfl, rfl, htab, rfl⟩ := next_tab HH.out hkey hR hat
      have B1 : Below W.heap.size W w1 := HB.out.trans ⟨hg1.os, hg1.tape, hg1.output, hg1.size, fun k hk => hg1.block k (by omega) (by simp; omega)⟩
      have CC := hid (HCC.out n own htab w1 B1)
      have HB1 := hid B1
      have hne : ∀ k, u5.ownBlock = some k → W.heap.size + 1 ≤ k := fun k hk => (World.ownsRow.lt HE.out k hk).1
      have E1 : Hid (Ents (W.heap.size + 1) w1 u5 l) := World.ownsRow.kept HE.out hg1 (by
        cases hob : u5.ownBlock with
        | none => exact Or.inl rfl
        | some g => exact Or.inr (fun e => by have := hne g hob; simp at e; omega))
      have G1 := hid (HG.out.step MN.out htab hleft)
      have RG1 := hid hrg1
      have hsz1 : W.heap.size + 1 ≤ w1.heap.size := by omega
      obtain ⟨tb, htb⟩ : ∃ tb, tb = (c.tv n).tb := ⟨_, rfl⟩
      rw [← htb] at CC hen ⊢
      dsimp only [ptrV] at hen ⊢
      clear hrg hrg1 hkey hR hat hleft hg1 hs1 B1 htb
      go_wp2_with fail
      refine CC.out.mono ?_
      rintro e w2 ⟨v, rfl, hv, hb⟩
      have E2 := hid (Ents.later E1.out hb)
      have V2 := hid hv
      have R2 := hid (RG1.out.kept (row := none) ⟨hb.os, hb.tape, hb.output, hb.size, fun k hk _ => hb.block k hk⟩ (by simp) (by simp))
      have B2 := hid (HB1.out.trans (hb.mono HB1.out.size))
      have hsz2 : W.heap.size + 1 ≤ w2.heap.size := by have := hb.size; omega
      have hl2 : l.length + (mt n).length ≤ 2000 := by
        have := G1.out.few MN.out HN.out
        rw [List.length_append] at this
        omega
      clear hv hb CC E1 hen htab
      go_wp2_with (at_builtin; refine wpList_ents rfl _ _ rfl E2.out V2.out hl2 hsz2 rfl rfl ?_; intro v4 w4 H4 S4)
      go_roundg cnt1
      case measure => exact hlt
      case rel =>
        refine ⟨_, l ++ mt n, R2.out.kept S4.out (fun e => ?_) (fun e => ?_), H4.out, G1.out, ?_, ?_⟩
        · have := hne c.tm e.symm; omega
        · have := hne W.heap.size e.symm; omega
        · exact B2.out.trans ((St.of_grown (S := fun k => u5.ownBlock = some k) S4.out fun k e => e).below (B := W.heap.size) (fun k hk => by have := hne k hk; omega) (by omega))
        · have := S4.out.size; omega
end Go.Proofs.YtoafpfheopgdkaaGreatDoor.So
namespace Go.Proofs.YtoafpfheopgdkaaGreatDoor.So
open Go.RowKit Go.Shelf Go.Maps
open Go.Proofs.YtoafpfheopgdkaaGreatDoor.Co (I64 I64_mid)
open Go.Proofs.YtoafpfheopgdkaaGreatDoor.At (St bAl cell_blk blk_seen blk_free an mtB within_nat bits_and32 cast_beq0)
open Go.Proofs.YtoafpfheopgdkaaGreatDoor.Ro (Ents entCells entCells_len)
open Go.Proofs.YtoafpfheopgdkaaGreatDoor.Rs (SD mskP)
theorem enters_match1 : ∀ args w, (callFunc 54 args).run Tryz.prog w = .ok (.enter 54 args) w := enters_of Tryz.func54 (by kernel_rfl) rfl
set_option maxHeartbeats 1600000 in
set_option maxRecDepth 100000 in
theorem match1_any {W : World} {tb m : Nat} {ov : Value} (c0 : W.cell? ⟨tb, 0, none⟩ = some (.int .u32 (m : Int))) (c1 : W.cell? ⟨tb, 1, none⟩ = some ov) (hov : ∃ a l c, ov = .slice a l c) (a b : Nat) (hm : m < 4294967296) (ha : a < 4294967296) (hb : b < 4294967296) (xa xb : Nat) (y0 : W.cell? ⟨xa, 0, none⟩ = some (.int .u32 (a : Int))) (y1 : W.cell? ⟨xb, 0, none⟩ = some (.int .u32 (b : Int))) :
    Calls Tryz.prog 54 #[.pointer (some ⟨tb, 0, none⟩), .pointer (some ⟨xa, 0, none⟩), .pointer (some ⟨xb, 0, none⟩)] W fun e W' => e = .returned (if mtB a b m = true then ov else .slice none 0 0) ∧ Below W.heap.size W W' := by
  obtain ⟨oa, ol, oc, rfl⟩ := hov
  have WN := hid (fun w => within_nat a m ha hm w)
  have ba := hid (bits_and32 m b hm hb)
  have KK : Hid (∀ W', Below W.heap.size W W' → W'.cell? ⟨tb, 0, none⟩ = some (.int .u32 (m : Int)) ∧ W'.cell? ⟨tb, 1, none⟩ = some (.slice oa ol oc) ∧ W'.cell? ⟨xa, 0, none⟩ = some (.int .u32 (a : Int)) ∧ W'.cell? ⟨xb, 0, none⟩ = some (.int .u32 (b : Int))) := fun W' hb => ⟨At.seen hb (Nat.le_refl _) c0, At.seen hb (Nat.le_refl _) c1, At.seen hb (Nat.le_refl _) y0, At.seen hb (Nat.le_refl _) y1⟩
  obtain ⟨v, hv⟩ : ∃ v : Value, v = if mtB a b m = true then .slice oa ol oc else .slice none 0 0 := ⟨_, rfl⟩
  rw [← hv]
  unfold mtB at hv
  generalize decide (an a m = 0) = t1 at *
  have c2 : W.drew.cell? ⟨tb, 1, none⟩ = some (.slice oa ol oc) := c1
  clear hm ha hb
  cases t1 with
  | false =>
    rw [Bool.false_and, if_neg (by decide)] at hv
    subst hv
    clear ba
    go_enter Tryz.func54, Tryz.ntmps54
    go_wp2_with fail
    go_quiet ((go_at_call 47; exact Calls.quiet_of_same (WN.out _)))
    all_goals
      go_wp2_with fail
      go_ret
      exact ⟨rfl, At.drewN_below _ _⟩
  | true =>
    rw [Bool.true_and] at hv
    by_cases hz : m &&& b = 0
    · have q : (bits .and .u32 (m : Int) (b : Int) == 0) = true := by rw [ba.out, hz]; rfl
      rw [decide_eq_true hz, if_pos rfl] at hv
      subst hv
      clear hz ba
      go_enter Tryz.func54, Tryz.ntmps54
      go_wp2_with fail
      go_region_held3 (fun W' => W'.cell? ⟨tb, 0, none⟩ = some (.int .u32 (m : Int)) ∧ W'.cell? ⟨tb, 1, none⟩ = some (.slice oa ol oc) ∧ W'.cell? ⟨xa, 0, none⟩ = some (.int .u32 (a : Int)) ∧ W'.cell? ⟨xb, 0, none⟩ = some (.int .u32 (b : Int))) (first | exact KK.out _ (Below.refl _ _).drew | exact KK.out _ (Below.refl _ _))
        ((go_at_call 47; refine (WN.out _).mono ?_; rintro e w1 ⟨rfl, hq⟩; obtain rfl := hq.symm))
      all_goals
        go_wp2_with fail
        go_ret
        exact ⟨rfl, (Below.refl _ _).drew⟩
    · have q : (bits .and .u32 (m : Int) (b : Int) == 0) = false := by rw [ba.out, cast_beq0]; exact decide_eq_false hz
      rw [decide_eq_false hz, if_neg (by decide)] at hv
      subst hv
      clear hz ba
      go_enter Tryz.func54, Tryz.ntmps54
      go_wp2_with fail
      go_region_held3 (fun W' => W'.cell? ⟨tb, 0, none⟩ = some (.int .u32 (m : Int)) ∧ W'.cell? ⟨tb, 1, none⟩ = some (.slice oa ol oc) ∧ W'.cell? ⟨xa, 0, none⟩ = some (.int .u32 (a : Int)) ∧ W'.cell? ⟨xb, 0, none⟩ = some (.int .u32 (b : Int))) (first | exact KK.out _ (Below.refl _ _).drew | exact KK.out _ (Below.refl _ _))
        ((go_at_call 47; refine (WN.out _).mono ?_; rintro e w1 ⟨rfl, hq⟩; obtain rfl := hq.symm))
      all_goals
        go_wp2_with fail
        go_ret
        exact ⟨rfl, (Below.refl _ _).drew⟩
end Go.Proofs.YtoafpfheopgdkaaGreatDoor.So
namespace Go.Proofs.YtoafpfheopgdkaaGreatDoor.So
open Go.RowKit Go.Shelf Go.Maps
open Go.Proofs.YtoafpfheopgdkaaGreatDoor.Co (I64 I64_mid)
open Go.Proofs.YtoafpfheopgdkaaGreatDoor.At (St bAl cell_blk blk_seen blk_free an mtB)
open Go.Proofs.YtoafpfheopgdkaaGreatDoor.Ro (RS Ents entCells entCells_len)
open Go.Proofs.YtoafpfheopgdkaaGreatDoor.Rs (SD mskP)
theorem upto_sorted (r : RS) (k : Nat) : (r.upto k).Pairwise (fun x y => x.1 < y.1) := by
  induction k with
  | zero => simp [RS.upto]
  | succ k ih =>
    unfold RS.upto
    split
    · exact ih
    · exact List.pairwise_append.2 ⟨ih, by simp, fun x hx y hy => by simp at hy; subst hy; exact (RS.upto_mem hx).1⟩
theorem upto_iff (r : RS) (k : Nat) (p : Nat × Nat) : p ∈ r.upto k ↔ p.1 < k ∧ p.1 ∉ r.free ∧ p.2 = r.gens.getD p.1 0 := by
  refine ⟨RS.upto_mem, ?_⟩
  induction k with
  | zero => rintro ⟨h, -⟩; omega
  | succ k ih =>
    rintro ⟨h1, h2, h3⟩
    unfold RS.upto
    by_cases e : p.1 = k
    · rw [if_neg (by rw [← e]; exact h2), List.mem_append]
      refine .inr ?_
      obtain ⟨a, b⟩ := p
      change a = k at e
      subst e
      simpa using h3
    · have q := ih ⟨by omega, h2, h3⟩
      split
      · exact q
      · exact List.mem_append.2 (.inl q)
theorem all_iff (s : SD) (p : Nat × Nat) : p ∈ s.r.all ↔ al s p.1 p.2 := by
  unfold RS.all
  rw [upto_iff, al_iff]
  constructor
  · rintro ⟨h1, h2, h3⟩
    refine ⟨h2, ?_⟩
    rw [List.getElem?_eq_getElem h1, h3, List.getD_eq_getElem?_getD, List.getElem?_eq_getElem h1]
    rfl
  · rintro ⟨h1, h2⟩
    obtain ⟨h3, h4⟩ := List.getElem?_eq_some_iff.1 h2
    exact ⟨h3, h1, by rw [List.getD_eq_getElem?_getD, h2]; rfl⟩
/-- Who matches. -/
def matched (s : SD) (a b : Nat) : List (Nat × Nat) := s.r.all.filter fun x => mtB a b (mskP (s.at x.1))
/-- What of a table matches. -/
def mtM (tab : Nat → Option (List (Nat × Nat))) (sets : List Nat) (a b n : Nat) : List (Nat × Nat) := if mtB a b (sets.getD n 0) = true then (tab n).getD [] else []
theorem sets_at {l : List Nat} {n m : Nat} (h : l[n]? = some m) : l.getD n 0 = m := by rw [List.getD_eq_getElem?_getD, h]; rfl
theorem gathered {ex : Option Nat} {B : Nat} {W : World} {sb : Nat} {c : CV} {s : SD} (h : Sto ex B W sb c s) (he : ex = none) {l : List (Nat × Nat)} {mt : Nat → List (Nat × Nat)} {f : Nat × Nat → Bool} (hs : l.Pairwise (fun x y => x.1 < y.1)) (hm : ∀ x, x ∈ l ↔ ∃ n own, c.tab n = some own ∧ x ∈ mt n)
    (hf : ∀ n own x, c.tab n = some own → (x ∈ mt n ↔ x ∈ own ∧ f x = true)) : l = s.r.all.filter f := by
  subst he
  refine ext_key (fun x => x.1) hs ((upto_sorted _ _).filter _) fun x => ?_
  rw [hm x, List.mem_filter, all_iff]
  constructor
  · rintro ⟨n, own, e1, e2⟩
    obtain ⟨q1, q2⟩ := (hf n own x e1).1 e2
    obtain ⟨j, hj⟩ := List.getElem?_of_mem q1
    exact ⟨((h.lk.back n own e1).2 j x.1 x.2 hj).1, q2⟩
  · rintro ⟨e1, e2⟩
    obtain ⟨n, j, own, -, q2, q3, -⟩ := h.lk.here x.1 x.2 e1 (by simp)
    exact ⟨n, own, q2, (hf n own x q2).2 ⟨List.mem_of_getElem? q3, e2⟩⟩
set_option maxHeartbeats 1600000 in
set_option maxRecDepth 100000 in
theorem smatch_any {B : Nat} {W : World} {sb : Nat} {c : CV} {s : SD} (h : Sto none B W sb c s) (a b : Nat) (ha : a < 4294967296) (hb : b < 4294967296) :
    Calls Tryz.prog 26 #[.pointer (some ⟨sb, 0, none⟩), .int .u32 (a : Int), .int .u32 (b : Int)] W fun e W' => ∃ v, e = .returned v ∧ Ents W.heap.size W' v (matched s a b) ∧ Below W.heap.size W W' := by
  obtain ⟨w1, hw1⟩ : ∃ w1, w1 = (W.alloc (.cells #[.int .u32 (a : Int)] 24)).alloc (.cells #[.int .u32 (b : Int)] 24) := ⟨_, rfl⟩
  obtain ⟨b1, r1, p1⟩ := Rs.two_blk W #[.int .u32 (a : Int)] #[.int .u32 (b : Int)] 24 24
  rw [← hw1] at b1 r1 p1
  have h1 := h.later b1
  have GA := hid (gather_any 54 #[.pointer (some ⟨W.heap.size, 0, none⟩), .pointer (some ⟨W.heap.size + 1, 0, none⟩)] enters_match1 h1 (mtM c.tab s.sets a b) (fun n own hn => by
      unfold mtM
      rw [hn]
      split
      · exact List.Sublist.refl _
      · exact List.nil_sublist _) (fun n own hn W' hb' => by
      obtain ⟨m, e1, tb⟩ := (h1.later hb').tabs n own hn
      have hm16 := (h1.later hb').atl.ok.u16 (List.mem_of_getElem? e1)
      obtain ⟨oa, oc, ho⟩ := tb.own.slice
      refine (match1_any tb.c0 tb.c1 ⟨_, _, _, ho⟩ a b (by have : m < 65536 := hm16; omega) ha hb W.heap.size (W.heap.size + 1) (cell_blk (blk_seen hb' (Nat.le_refl _) r1) rfl) (cell_blk (blk_seen hb' (Nat.le_refl _) p1) rfl)).mono ?_
      rintro e W2 ⟨rfl, hb2⟩
      refine ⟨_, rfl, ?_, hb2⟩
      unfold mtM
      rw [sets_at e1, hn]
      split
      · exact World.ownsRow.mono (Ents.later tb.own hb2) (Nat.zero_le _)
      · exact World.ownsRow_nil _ _ _ _))
  have FI : Hid (∀ l : List (Nat × Nat), l.Pairwise (fun x y => x.1 < y.1) → (∀ x, x ∈ l ↔ ∃ n own, c.tab n = some own ∧ x ∈ mtM c.tab s.sets a b n) → l = matched s a b) := fun l hs hm => gathered h rfl hs hm fun n own x hn => by
    unfold mtM
    constructor
    · intro hx
      split at hx
      · rename_i hq
        rw [hn] at hx
        obtain ⟨j, hj⟩ := List.getElem?_of_mem hx
        have := ((h.lk.back n own hn).2 j x.1 x.2 hj).2.2.2
        rw [sets_at this] at hq
        exact ⟨hx, hq⟩
      · simp at hx
    · rintro ⟨hx, hq⟩
      obtain ⟨j, hj⟩ := List.getElem?_of_mem hx
      have := ((h.lk.back n own hn).2 j x.1 x.2 hj).2.2.2
      rw [sets_at this, if_pos hq, hn]
      exact hx
  have HW1 := hid hw1
  have B1 := hid b1
  clear hw1 b1 r1 p1 h h1 ha hb
  go_enter Tryz.func26, Tryz.ntmps26
  go_upto_region 1 with fail
  rw [← HW1.out]
  go_wp2_with fail
  refine GA.out.mono ?_
  rintro e w2 ⟨v, l, rfl, e1, e2, e3, e4⟩
  have R := FI.out l e2 e3
  have E := hid (World.ownsRow.mono (base' := W.heap.size) e1 B1.out.size)
  have B2 := hid (B1.out.trans (e4.mono B1.out.size))
  subst R
  clear e1 e2 e3 e4 GA
  go_wp2_with fail
  go_ret
  exact ⟨_, rfl, E.out, B2.out⟩
theorem smatch_nil (a b : Int) (W : World) : Calls Tryz.prog 26 #[.pointer none, .int .u32 a, .int .u32 b] W fun e W' => e = .returned (.slice none 0 0) ∧ Below W.heap.size W W' := by
  obtain ⟨w1, hw1⟩ : ∃ w1, w1 = (W.alloc (.cells #[.int .u32 a] 24)).alloc (.cells #[.int .u32 b] 24) := ⟨_, rfl⟩
  obtain ⟨b1, -, -⟩ := Rs.two_blk W #[.int .u32 a] #[.int .u32 b] 24 24
  rw [← hw1] at b1
  have GN := hid fun fv => gather_nil fv w1
  have HW1 := hid hw1
  have B1 := hid b1
  clear hw1 b1
  go_enter Tryz.func26, Tryz.ntmps26
  go_upto_region 1 with fail
  rw [← HW1.out]
  go_wp2_with fail
  refine (GN.out _).mono ?_
  rintro e w2 ⟨rfl, hq⟩
  obtain rfl := hq.symm
  go_wp2_with fail
  go_ret
  exact ⟨rfl, B1.out⟩
end Go.Proofs.YtoafpfheopgdkaaGreatDoor.So
namespace Go.Proofs.YtoafpfheopgdkaaGreatDoor.So
open Go.RowKit Go.Shelf Go.Maps
open Go.Proofs.YtoafpfheopgdkaaGreatDoor.Co (I64 I64_mid Pt Col CS)
open Go.Proofs.YtoafpfheopgdkaaGreatDoor.At (St bAl cell_blk blk_seen blk_free Ints)
open Go.Proofs.YtoafpfheopgdkaaGreatDoor.Ro (RS Ents entCells entCells_len wpList_ent)
open Go.Proofs.YtoafpfheopgdkaaGreatDoor.Rs (SD mskP)
/-- The owners of rows. -/
def owners (own : List (Nat × Nat)) (l : List Nat) : List (Nat × Nat) := l.map fun j => own.getD j (0, 0)
theorem ints_ent {B B' : Nat} {W : World} {v u : Value} {l : List Nat} {q : List (Nat × Nat)} (h : Ints B W v l) (h' : Ents B' W u q) {k : Nat} (hv : v.ownBlock = some k) : u.ownBlock ≠ some k := fun hu => by
  obtain ⟨c, e⟩ := own_blk h hv
  obtain ⟨c', e'⟩ := own_blk h' hu
  rw [e] at e'
  simp at e'
end Go.Proofs.YtoafpfheopgdkaaGreatDoor.So
namespace Go.Proofs.YtoafpfheopgdkaaGreatDoor.So
open Go.RowKit Go.Shelf Go.Maps
open Go.Proofs.YtoafpfheopgdkaaGreatDoor.Co (I64 I64_mid Pt Col CS since since_len tickAt)
open Go.Proofs.YtoafpfheopgdkaaGreatDoor.At (St bAl cell_blk blk_seen blk_free Ints)
open Go.Proofs.YtoafpfheopgdkaaGreatDoor.Ro (RS Ents entCells entCells_len)
open Go.Proofs.YtoafpfheopgdkaaGreatDoor.Rs (SD mskP Prt)
theorem since_mem (l : List Pt) (f : Int) (k j : Nat) : j ∈ since l f k ↔ j < k ∧ f ≤ tickAt l (j : Int) := by
  induction k with
  | zero => simp [since]
  | succ k ih =>
    unfold since
    split
    · rename_i h
      rw [List.mem_append, ih]
      simp only [List.mem_singleton]
      constructor
      · rintro (⟨h1, h2⟩ | rfl)
        · exact ⟨by omega, h2⟩
        · exact ⟨by omega, h⟩
      · rintro ⟨h1, h2⟩
        by_cases e : j = k
        · exact .inr e
        · exact .inl ⟨by omega, h2⟩
    · rename_i h
      rw [ih]
      constructor
      · rintro ⟨h1, h2⟩; exact ⟨by omega, h2⟩
      · rintro ⟨h1, h2⟩
        refine ⟨Nat.lt_of_le_of_ne (by omega) fun e => h (by rw [← e]; exact h2), h2⟩
theorem owners_sub (own : List (Nat × Nat)) (l : List Pt) (f : Int) (k : Nat) (hk : k ≤ own.length) : (owners own (since l f k)).Sublist (own.take k) := by
  induction k with
  | zero => simp [since, owners]
  | succ k ih =>
    obtain ⟨p, hp⟩ := at_lt own k (by omega)
    have e : own.take (k + 1) = own.take k ++ [p] := by rw [List.take_add_one, hp]; rfl
    rw [e]
    unfold since
    split
    · unfold owners at ih ⊢
      rw [List.map_append]
      refine (ih (by omega)).append ?_
      simp [hp]
    · exact (ih (by omega)).trans (List.sublist_append_left _ _)
/-- Whose part has been written since. -/
def chF (s : SD) (comp fr : Int) (x : Nat × Nat) : Bool := match (s.at x.1).find? (fun p => p.c == comp) with
  | some p => decide (fr ≤ p.t)
  | none => false
def changedL (s : SD) (comp fr : Int) : List (Nat × Nat) := s.r.all.filter (chF s comp fr)
def chL (s : SD) (m : Nat) (own : List (Nat × Nat)) (comp fr : Int) : List Nat := if 0 ≤ comp ∧ m.testBit comp.toNat = true then since (rowsOf s own comp.toNat) fr own.length else []
def chM (tab : Nat → Option (List (Nat × Nat))) (s : SD) (comp fr : Int) (n : Nat) : List (Nat × Nat) := owners ((tab n).getD []) (chL s (s.sets.getD n 0) ((tab n).getD []) comp fr)
theorem tick_row (s : SD) {own : List (Nat × Nat)} {j : Nat} {x : Nat × Nat} (hj : own[j]? = some x) (q : Nat) : tickAt (rowsOf s own q) (j : Int) = (ptAt (s.at x.1) q).t := by
  have e : Co.rowAt (rowsOf s own q) (j : Int) = some (ptAt (s.at x.1) q) := by
    unfold Co.rowAt rowsOf
    simp [hj]
  unfold tickAt
  rw [e]
end Go.Proofs.YtoafpfheopgdkaaGreatDoor.So
namespace Go.Proofs.YtoafpfheopgdkaaGreatDoor.Sc
open Go.RowKit Go.Shelf
structure Rsc where
  s : ByteArray
  n : Int
def CmpRow (W : World) (v : Value) (cs : List Cmp) : Prop := ∃ a c, v = .slice a cs.length c ∧ cs.length ≤ c ∧ (cs = [] ∨ ∃ b o, a = some ⟨b, o, none⟩ ∧ ∀ (j : Nat) (x : Cmp), cs[j]? = some x →
  W.cell? ⟨b, o + j * 7, none⟩ = some (.string x.s) ∧ W.cell? ⟨b, o + j * 7 + 1, none⟩ = some (.int .i64 x.wd) ∧ W.cell? ⟨b, o + j * 7 + 2, none⟩ = some (.bool x.rb) ∧ W.cell? ⟨b, o + j * 7 + 3, none⟩ = some (.int .i64 x.d0) ∧ W.cell? ⟨b, o + j * 7 + 4, none⟩ = some (.int .i64 x.d1) ∧ W.cell? ⟨b, o + j * 7 + 5, none⟩ = some (.int .i64 x.d2) ∧ W.cell? ⟨b, o + j * 7 + 6, none⟩ = some (.int .i64 x.d3))
def RscRow (W : World) (v : Value) (rs : List Rsc) : Prop := ∃ a c, v = .slice a rs.length c ∧ rs.length ≤ c ∧ (rs = [] ∨ ∃ b o, a = some ⟨b, o, none⟩ ∧ ∀ (j : Nat) (x : Rsc), rs[j]? = some x →
  W.cell? ⟨b, o + j * 2, none⟩ = some (.string x.s) ∧ W.cell? ⟨b, o + j * 2 + 1, none⟩ = some (.int .i64 x.n))
theorem CmpRow.later {W W' : World} {v : Value} {cs : List Cmp} (h : CmpRow W v cs) (hb : Below W.heap.size W W') : CmpRow W' v cs := by
  obtain ⟨a, c, h1, h2, h3⟩ := h
  refine ⟨a, c, h1, h2, h3.imp id ?_⟩
  rintro ⟨b, o, ha, hc⟩
  refine ⟨b, o, ha, fun j x hx => ?_⟩
  obtain ⟨c0, c1, c2, c3, c4, c5, c6⟩ := hc j x hx
  have S := fun {p : Addr} {u : Value} (h : W.cell? p = some u) => Below.seen hb (Nat.le_refl _) h
  exact ⟨S c0, S c1, S c2, S c3, S c4, S c5, S c6⟩
theorem RscRow.later {W W' : World} {v : Value} {rs : List Rsc} (h : RscRow W v rs) (hb : Below W.heap.size W W') : RscRow W' v rs := by
  obtain ⟨a, c, h1, h2, h3⟩ := h
  refine ⟨a, c, h1, h2, h3.imp id ?_⟩
  rintro ⟨b, o, ha, hc⟩
  refine ⟨b, o, ha, fun j x hx => ?_⟩
  obtain ⟨c0, c1⟩ := hc j x hx
  exact ⟨Below.seen hb (Nat.le_refl _) c0, Below.seen hb (Nat.le_refl _) c1⟩
abbrev Leaves := List (List ByteArray × Nat)
def bComps : ByteArray := ⟨#[99, 111, 109, 112, 111, 110, 101, 110, 116, 115]⟩
def bRes : ByteArray := ⟨#[114, 101, 115, 111, 117, 114, 99, 101, 115]⟩
def bName : ByteArray := ⟨#[110, 97, 109, 101]⟩
def bWidth : ByteArray := ⟨#[119, 105, 100, 116, 104]⟩
def bDefault : ByteArray := ⟨#[100, 101, 102, 97, 117, 108, 116]⟩
def at3 (l : ByteArray) (i : Nat) (p : ByteArray) (ns : List Nat) : Leaves := ns.map fun k => ([l, dig i, p], k)
def seenTo (ns : List ByteArray) : List ByteArray := ns.foldl seenB []
theorem seenTo_snoc (ns : List ByteArray) (s : ByteArray) : seenTo (ns ++ [s]) = seenB (seenTo ns) s := by simp [seenTo, List.foldl_append]
def leafC (acc : List ByteArray) (i : Nat) (c : Cmp) : Leaves := at3 bComps i bName (nErr acc c.s) ++ (at3 bComps i bWidth (wErr c) ++ at3 bComps i bDefault (dErr c))
def compL (cs : List Cmp) : Nat → Leaves
  | 0 => []
  | k + 1 => compL cs k ++ (match cs[k]? with | some c => leafC (seenTo ((cs.take k).map Cmp.s)) k c | none => [])
def resL (cs : List Cmp) (rs : List Rsc) : Nat → Leaves
  | 0 => []
  | k + 1 => resL cs rs k ++ (match rs[k]? with | some r => at3 bRes k bName (nErr (seenTo (cs.map Cmp.s ++ (rs.take k).map Rsc.s)) r.s) | none => [])
def manyL (l : ByteArray) (m n : Nat) : Leaves := if (m : Int) < (n : Int) then [([l], 4)] else []
def checkL (cs : List Cmp) (rs : List Rsc) : Leaves := manyL bComps 16 cs.length ++ compL cs cs.length ++ (manyL bRes 8 rs.length ++ resL cs rs rs.length)
theorem nErr_len (acc : List ByteArray) (s : ByteArray) : (nErr acc s).length ≤ 1 ∧ ∀ k ∈ nErr acc s, 1 ≤ k ∧ k ≤ 18 := by
  unfold nErr
  split
  · split <;> simp
  · simp
theorem wErr_len (c : Cmp) : (wErr c).length ≤ 1 ∧ ∀ k ∈ wErr c, 1 ≤ k ∧ k ≤ 18 := by
  unfold wErr
  split <;> simp
theorem dErr_len (c : Cmp) : (dErr c).length ≤ 1 ∧ ∀ k ∈ dErr c, 1 ≤ k ∧ k ≤ 18 := by
  unfold dErr
  split <;> simp
theorem at3_len (l : ByteArray) (i : Nat) (p : ByteArray) (ns : List Nat) : (at3 l i p ns).length = ns.length := by simp [at3]
theorem leafC_len (acc : List ByteArray) (i : Nat) (c : Cmp) : (leafC acc i c).length ≤ 3 := by
  have h1 := (nErr_len acc c.s).1
  have h2 := (wErr_len c).1
  have h3 := (dErr_len c).1
  simp only [leafC, List.length_append, at3_len]
  omega
theorem compL_len (cs : List Cmp) : ∀ k, (compL cs k).length ≤ 3 * k
  | 0 => by simp [compL]
  | k + 1 => by
    have ih := compL_len cs k
    simp only [compL, List.length_append]
    cases cs[k]? with
    | none => simp; omega
    | some c => have := leafC_len (seenTo ((cs.take k).map Cmp.s)) k c; simp only []; omega
theorem resL_len (cs : List Cmp) (rs : List Rsc) : ∀ k, (resL cs rs k).length ≤ k
  | 0 => by simp [resL]
  | k + 1 => by
    have ih := resL_len cs rs k
    simp only [resL, List.length_append]
    cases rs[k]? with
    | none => simp; omega
    | some r => have := (nErr_len (seenTo (cs.map Cmp.s ++ (rs.take k).map Rsc.s)) r.s).1; simp only [at3_len]; omega
/-- How Check stands: the names that are taken, the errors so far. -/
structure Ckd (Ad : Nat → Addr) (w : World) (mb B n : Nat) (acc : List ByteArray) (ev : Value) (us : List (Value × Leaves)) (wr : World) : Prop where
  map : MapN wr mb n acc
  row : wr.ownsRow B 46 1 ev us.length (us.map Prod.fst)
  nt : ∀ g, ev.ownBlock = some g → NoText wr g
  one : ∀ u ∈ us, One Ad wr.heap.size wr u.1 u.2
  bel : Below w.heap.size w wr
  low : w.heap.size ≤ mb ∧ mb < B
  high : B ≤ wr.heap.size
theorem noText_map {W : World} {mb n : Nat} {acc : List ByteArray} (h : MapN W mb n acc) : NoText W mb := by
  intro s hs
  obtain ⟨es, clock, hb, -⟩ := h
  simp [World.cell?, hb] at hs
theorem NoText.later {W W' : World} {g : Nat} (h : NoText W g) (hb : W'.heap[g]? = W.heap[g]?) : NoText W' g := fun s hs => h s ((World.cell?_of_block (a := ⟨g, 0, none⟩) hb).symm.trans hs)
variable {Ad : Nat → Addr} {w wr w1 : World} {mb B n : Nat} {acc : List ByteArray} {ev : Value} {us : List (Value × Leaves)}
theorem Ckd.later (h : Ckd Ad w mb B n acc ev us wr) (hb : Below wr.heap.size wr w1) : Ckd Ad w mb B n acc ev us w1 :=
  ⟨h.map.later hb, own_more h.row hb, fun g hg => (h.nt g hg).later (hb.block g (h.row.lt g hg).2), fun u hu => (h.one u hu).move hb hb.size, h.bel.trans (hb.mono h.bel.size), h.low, Nat.le_trans h.high hb.size⟩
theorem Ckd.took {acc' : List ByteArray} (h : Ckd Ad w mb B n acc ev us wr) (hm : MapN w1 mb (n + 1) acc') (hg : wr.grownBy w1 (some mb)) : Ckd Ad w mb B (n + 1) acc' ev us w1 := by
  have hne : ∀ g, ev.ownBlock = some g → some g ≠ some mb := fun g hgb e => by
    have := (h.row.lt g hgb).1
    have := h.low.2
    simp at e; omega
  refine ⟨hm, h.row.kept hg ?_, fun g hgb => (h.nt g hgb).later (hg.block g (h.row.lt g hgb).2 (hne g hgb)), fun u hu => (h.one u hu).grown hg (Nat.le_refl _) (noText_map h.map), ?_, h.low, Nat.le_trans h.high hg.size⟩
  · cases hb : ev.ownBlock with
    | none => exact .inl rfl
    | some g => exact .inr (hne g hb)
  · exact h.bel.grown hg h.bel.size (fun k hk => by simp at hk; rw [← hk]; exact h.low.1)
end Go.Proofs.YtoafpfheopgdkaaGreatDoor.Sc
namespace Go.Proofs.YtoafpfheopgdkaaGreatDoor.Sc
open Go.RowKit Go.Shelf
theorem row_cell (W : World) (vs : List Value) (e : TypeId) (j : Nat) (u : Value) (h : vs[j]? = some u) : (W.alloc (.cells vs.toArray e)).cell? ⟨W.heap.size, j, none⟩ = some u := by
  rw [cell_of_row _ _ j _ e (0, 0) (heap_alloc_new W _)]
  simpa using h
theorem Ckd.app {Ad : Nat → Addr} {w wr w2 : World} {mb B n : Nat} {acc : List ByteArray} {ev : Value} {us vs : List (Value × Leaves)} {ga : Option Addr} {gc : Nat} {y : List Value} (h : Ckd Ad w mb B n acc ev us wr) (h0 : 0 < us.length) (hv : ∀ u ∈ vs, One Ad wr.heap.size wr u.1 u.2) {o : Obj}
    (hy : y = us.map Prod.fst ++ vs.map Prod.fst) (ow : w2.ownsRow B 46 1 (.slice ga y.length gc) y.length y) (hg : (wr.alloc o).grownBy w2 ev.ownBlock) : Ckd Ad w mb B n acc (.slice ga y.length gc) (us ++ vs) w2 := by
  have b : Below wr.heap.size wr (wr.alloc o) := (Below.refl _ _).alloc (Nat.le_refl _) _
  have h1 := h.later b
  obtain ⟨a, c, rfl⟩ := own_slice h.row
  obtain ⟨g, rfl, hgB, hgl⟩ := own_some h.row h0
  have hyl : y.length = (us ++ vs).length := by rw [hy]; simp
  have hym : y = (us ++ vs).map Prod.fst := by rw [hy]; simp
  have hnt : NoText (wr.alloc o) g := h1.nt g rfl
  have hone : ∀ u ∈ us ++ vs, One Ad w2.heap.size w2 u.1 u.2 := by
    intro u hu
    rcases List.mem_append.1 hu with hu | hu
    · exact (h1.one u hu).grown hg (Nat.le_refl _) hnt
    · exact ((hv u hu).move b b.size).grown hg (Nat.le_refl _) hnt
  obtain ⟨g', rfl, hg'⟩ := own_some ow (by rw [hyl]; simp; omega)
  have hne : some mb ≠ (Value.slice (some ⟨g, 0, none⟩) us.length c).ownBlock := fun e => by
    have e' : mb = g := by simpa [Value.ownBlock] using e
    have := h.low.2
    omega
  refine ⟨World.ownsMap.kept h1.map hg hne, by rw [← hyl, ← hym]; exact ow, ?_, hone, ?_, h.low, Nat.le_trans h1.high hg.size⟩
  · intro x hx s hs
    obtain rfl : g' = x := by simpa [Value.ownBlock] using hx
    rw [ow.cellAt 0 (by rw [hyl]; simp; omega), hym] at hs
    cases us with
    | nil => simp at h0
    | cons u us => simp at hs; exact (hone u (by simp)).cell.2 s hs
  · exact h1.bel.grown hg h1.bel.size (fun k hk => by simp [Value.ownBlock] at hk; rw [← hk]; have := h.low; omega)
def flat (us : List (Value × Leaves)) : Leaves := (us.map Prod.snd).flatten
theorem flat_app (us vs : List (Value × Leaves)) : flat (us ++ vs) = flat us ++ flat vs := by simp [flat]
theorem compL_next {cs : List Cmp} {k : Nat} {c : Cmp} (h : cs[k]? = some c) : compL cs (k + 1) = compL cs k ++ leafC (seenTo ((cs.take k).map Cmp.s)) k c := by simp [compL, h]
theorem seen_next {cs : List Cmp} {k : Nat} {c : Cmp} (h : cs[k]? = some c) : seenTo ((cs.take (k + 1)).map Cmp.s) = seenB (seenTo ((cs.take k).map Cmp.s)) c.s := by
  rw [take_next h, List.map_append, List.map_cons, List.map_nil, seenTo_snoc]
/-- What great lets by. -/
def SmallC (cs : List Cmp) : Prop := cs.length ≤ 40 ∧ ∀ c ∈ cs, c.s.size ≤ 100
def SmallQ (rs : List Rsc) : Prop := rs.length ≤ 40 ∧ ∀ r ∈ rs, r.s.size ≤ 100
/-- How Check stands within a component's row of errors. -/
structure C6 (Ad : Nat → Addr) (w : World) (mb B n : Nat) (acc : List ByteArray) (ev : Value) (us : List (Value × Leaves)) (g : Nat) (x : Cmp) (vs : List (Value × Leaves)) (wc : World) : Prop where
  ck : Ckd Ad w mb B n acc ev us wc
  c0 : wc.cell? ⟨g, 0, none⟩ = some (.string x.s)
  c1 : wc.cell? ⟨g, 1, none⟩ = some (.int .i64 x.wd)
  c2 : wc.cell? ⟨g, 2, none⟩ = some (.bool x.rb)
  c3 : wc.cell? ⟨g, 3, none⟩ = some (.int .i64 x.d0)
  c4 : wc.cell? ⟨g, 4, none⟩ = some (.int .i64 x.d1)
  c5 : wc.cell? ⟨g, 5, none⟩ = some (.int .i64 x.d2)
  c6 : wc.cell? ⟨g, 6, none⟩ = some (.int .i64 x.d3)
  one : ∀ u ∈ vs, One Ad wc.heap.size wc u.1 u.2
theorem C6.later {Ad : Nat → Addr} {w wc w1 : World} {mb B n g : Nat} {acc : List ByteArray} {ev : Value} {us vs : List (Value × Leaves)} {x : Cmp} (h : C6 Ad w mb B n acc ev us g x vs wc) (hb : Below wc.heap.size wc w1) : C6 Ad w mb B n acc ev us g x vs w1 :=
  have S := fun {p : Addr} {u : Value} (h : wc.cell? p = some u) => Below.seen hb (Nat.le_refl _) h
  ⟨h.ck.later hb, S h.c0, S h.c1, S h.c2, S h.c3, S h.c4, S h.c5, S h.c6, fun u hu => (h.one u hu).move hb hb.size⟩
theorem C6.push {Ad : Nat → Addr} {w wc w1 : World} {mb B n g : Nat} {acc : List ByteArray} {ev v : Value} {us vs : List (Value × Leaves)} {x : Cmp} {L : Leaves} (h : C6 Ad w mb B n acc ev us g x vs wc) (hb : Below wc.heap.size wc w1) (ho : One Ad w1.heap.size w1 v L) : C6 Ad w mb B n acc ev us g x (vs ++ [(v, L)]) w1 :=
  have k := h.later hb
  ⟨k.ck, k.c0, k.c1, k.c2, k.c3, k.c4, k.c5, k.c6, fun u hu => by
    rcases List.mem_append.1 hu with hu | hu
    · exact k.one u hu
    · simp at hu; subst hu; exact ho⟩
theorem C6.took {Ad : Nat → Addr} {w wc w1 : World} {mb B n g : Nat} {acc acc' : List ByteArray} {ev : Value} {us vs : List (Value × Leaves)} {x : Cmp} (h : C6 Ad w mb B n acc ev us g x vs wc) (hm : MapN w1 mb (n + 1) acc') (hg : wc.grownBy w1 (some mb)) : C6 Ad w mb B (n + 1) acc' ev us g x vs w1 := by
  have hne : some g ≠ some mb := fun e => noText_map h.ck.map x.s (by simp at e; rw [← e]; exact h.c0)
  have S := fun {j : Nat} {u : Value} (h : wc.cell? ⟨g, j, none⟩ = some u) => hg.cell (a := ⟨g, j, none⟩) h hne
  exact ⟨h.ck.took hm hg, S h.c0, S h.c1, S h.c2, S h.c3, S h.c4, S h.c5, S h.c6, fun u hu => (h.one u hu).grown hg (Nat.le_refl _) (noText_map h.ck.map)⟩
def Cells7 (g : Nat) (x : Cmp) (W : World) : Prop := W.cell? ⟨g, 0, none⟩ = some (.string x.s) ∧ W.cell? ⟨g, 1, none⟩ = some (.int .i64 x.wd) ∧ W.cell? ⟨g, 2, none⟩ = some (.bool x.rb) ∧ W.cell? ⟨g, 3, none⟩ = some (.int .i64 x.d0) ∧ W.cell? ⟨g, 4, none⟩ = some (.int .i64 x.d1) ∧ W.cell? ⟨g, 5, none⟩ = some (.int .i64 x.d2) ∧ W.cell? ⟨g, 6, none⟩ = some (.int .i64 x.d3)
theorem C6.cells {Ad : Nat → Addr} {w wc : World} {mb B n g : Nat} {acc : List ByteArray} {ev : Value} {us vs : List (Value × Leaves)} {x : Cmp} (h : C6 Ad w mb B n acc ev us g x vs wc) : wc.cell? ⟨g, 0, none⟩ = some (.string x.s) ∧ wc.cell? ⟨g, 1, none⟩ = some (.int .i64 x.wd) ∧ wc.cell? ⟨g, 2, none⟩ = some (.bool x.rb) ∧ wc.cell? ⟨g, 3, none⟩ = some (.int .i64 x.d0) ∧ wc.cell? ⟨g, 4, none⟩ = some (.int .i64 x.d1) ∧ wc.cell? ⟨g, 5, none⟩ = some (.int .i64 x.d2) ∧ wc.cell? ⟨g, 6, none⟩ = some (.int .i64 x.d3) :=
  ⟨h.c0, h.c1, h.c2, h.c3, h.c4, h.c5, h.c6⟩
theorem C6.env {Ad : Nat → Addr} {w wc : World} {mb B n g : Nat} {acc : List ByteArray} {ev : Value} {us vs : List (Value × Leaves)} {x : Cmp} (h : C6 Ad w mb B n acc ev us g x vs wc) (hE : Env8 w Ad) : Env8 wc Ad := hE.later h.ck.bel
theorem C6.drew {Ad : Nat → Addr} {w wc : World} {mb B n g : Nat} {acc : List ByteArray} {ev : Value} {us vs : List (Value × Leaves)} {x : Cmp} (h : C6 Ad w mb B n acc ev us g x vs wc) : C6 Ad w mb B n acc ev us g x vs wc.drew := h.later ⟨rfl, rfl, rfl, Nat.le_refl _, fun _ _ => rfl⟩
theorem One.shape {Ad : Nat → Addr} {n₀ : Nat} {W : World} {v : Value} {L : Leaves} (h : One Ad n₀ W v L) : v.cells = #[v] := by
  rcases h with ⟨rfl, -⟩ | ⟨p, -, h⟩
  · rfl
  · obtain ⟨t, q, rfl, -⟩ := h.1.shape
    rfl
def NsOk (ns : List Nat) : Prop := ns.length ≤ 1 ∧ ∀ k ∈ ns, 1 ≤ k ∧ k ≤ 18
theorem way3 (Ad : Nat → Addr) (W : World) (l p : ByteArray) (i : Nat) (hi : i < 100) (ns : List Nat) (h : NsOk ns) :
    Calls Tryz.prog 62 #[.string l, .int .i64 (i : Int), .string p, errV Ad ns] W fun e W' => ∃ v', e = .returned v' ∧ One Ad W'.heap.size W' v' (at3 l i p ns) ∧ Below W.heap.size W W' := wayat_any Ad W l p i hi ns h.1 h.2
theorem width7 (Ad : Nat → Addr) (W : World) (hE : Env8 W Ad) (x : Cmp) : Calls Tryz.prog 64 #[.agg #[.string x.s, .int .i64 x.wd, .bool x.rb, .int .i64 x.d0, .int .i64 x.d1, .int .i64 x.d2, .int .i64 x.d3]] W fun e W' => e = .returned (errV Ad (wErr x)) ∧ Below W.heap.size W W' := width_any Ad W hE x
theorem default7 (Ad : Nat → Addr) (W : World) (hE : Env8 W Ad) (x : Cmp) : Calls Tryz.prog 65 #[.agg #[.string x.s, .int .i64 x.wd, .bool x.rb, .int .i64 x.d0, .int .i64 x.d1, .int .i64 x.d2, .int .i64 x.d3]] W fun e W' => e = .returned (errV Ad (dErr x)) ∧ Below W.heap.size W W' := default_any Ad W hE x
end Go.Proofs.YtoafpfheopgdkaaGreatDoor.Sc
namespace Go.Proofs.YtoafpfheopgdkaaGreatDoor.Sc
open Go.RowKit Go.Shelf
attribute [local go_sem ↓] Go.wp_at_zero Go.wp_at_succ
theorem resL_next {cs : List Cmp} {rs : List Rsc} {k : Nat} {r : Rsc} (h : rs[k]? = some r) : resL cs rs (k + 1) = resL cs rs k ++ at3 bRes k bName (nErr (seenTo (cs.map Cmp.s ++ (rs.take k).map Rsc.s)) r.s) := by simp [resL, h]
theorem seenR_next {cs : List Cmp} {rs : List Rsc} {k : Nat} {r : Rsc} (h : rs[k]? = some r) : seenTo (cs.map Cmp.s ++ (rs.take (k + 1)).map Rsc.s) = seenB (seenTo (cs.map Cmp.s ++ (rs.take k).map Rsc.s)) r.s := by
  rw [take_next h, List.map_append, List.map_cons, List.map_nil, ← List.append_assoc, seenTo_snoc]
/-- append of a component's three errors, at a step of a region that draws its order. -/
theorem step_errs3 {ops : Array Oper} {o : Oper} {a : Act} {K : Act → World → Prop} {Q : Exit → Act → World → Prop} {E : Prop} (hgd : o.guard = none) (s x : Operand)
    (ho : o.op = .call { callee := .builtin .append, args := #[s, x], argTypes := #[142, 142] })
    {Ad : Nat → Addr} {w wc : World} {mb B n g : Nat} {acc : List ByteArray} {ev : Value} {us vs : List (Value × Leaves)} {y : Cmp} (hC : C6 Ad w mb B n acc ev us g y vs wc) {v1 v2 v3 : Value} (hvs : vs.map Prod.fst = [v1, v2, v3]) (h0 : 0 < us.length) (hul : us.length ≤ 1000)
    (hs : a.eval s = ev) (hx : a.eval x = .slice (some ⟨wc.heap.size, 0, none⟩) 3 3)
    (h : ∀ g' cap w2, C6 Ad w mb B n acc (.slice (some ⟨g', 0, none⟩) (us.length + 3) cap) (us ++ vs) g y [] w2 → K (a.put o.dst (.slice (some ⟨g', 0, none⟩) (us.length + 3) cap)) w2) :
    if Region.wanted o (yielded ops a.tmps) = true then Oper.wp Tryz.prog o a (wc.alloc (.cells #[v1, v2, v3] 46)) K Q else E := by
  obtain ⟨i0, hi, hz0, hz1, hz2⟩ := info_parts Tryz.infoErr
  have hone : ∀ u ∈ [v1, v2, v3], u.oneCell' = true := by
    intro u hu
    rw [← hvs] at hu
    obtain ⟨p, hp, rfl⟩ := List.mem_map.1 hu
    exact (hC.one p hp).cell.1
  have hown : (wc.alloc (.cells #[v1, v2, v3] 46)).ownsRow B 46 1 ev us.length (us.map Prod.fst) := hC.ck.row.alloc _
  have hvl : vs.length = 3 := by have := congrArg List.length hvs; simpa using this
  refine step_append_lies _ hgd s x 142 ho B 46 i0 .nilIface 1 16 Tryz.underlying142 hi hz0 hz1 hz2 rfl (by decide) ev us.length (us.map Prod.fst) hs hown ⟨wc.heap.size, 0, none⟩ 3 3 [v1, v2, v3] hx rfl (fun j u hu => by rw [add_at]; exact row_cell wc [v1, v2, v3] 46 j u hu) hone (by decide) (by unfold maxLen; omega) (by omega) (Nat.le_trans hC.ck.high (by simp)) (wc.alloc (.cells #[v1, v2, v3] 46)).heap.size rfl ?_
  intro g' cap w2 ow hg _ _
  have e : us.length + 3 = (us.map Prod.fst ++ [v1, v2, v3]).length := by simp
  refine h g' cap w2 ?_
  have hC1 := hC.later (show Below wc.heap.size wc (wc.alloc (.cells #[v1, v2, v3] 46)) from (Below.refl _ _).alloc (Nat.le_refl _) _)
  have hne : some g ≠ ev.ownBlock := fun hh => hC1.ck.nt g hh.symm y.s hC1.c0
  have S := fun {j : Nat} {u : Value} (h : (wc.alloc (.cells #[v1, v2, v3] 46)).cell? ⟨g, j, none⟩ = some u) => hg.cell (a := ⟨g, j, none⟩) h hne
  rw [e] at ow ⊢
  exact ⟨hC.ck.app h0 hC.one (by rw [hvs]) ow hg, S hC1.c0, S hC1.c1, S hC1.c2, S hC1.c3, S hC1.c4, S hC1.c5, S hC1.c6, by simp⟩
set_option maxHeartbeats 4000000 in
set_option maxRecDepth 100000 in
theorem check_any (Ad : Nat → Addr) (w : World) (va vb : Value) (cs : List Cmp) (rs : List Rsc) (hE : Env8 w Ad) (hC : CmpRow w va cs) (hQ : RscRow w vb rs) (hsC : SmallC cs) (hsQ : SmallQ rs) :
    Calls Tryz.prog 30 #[.agg #[va, vb]] w fun e w' => ∃ v', e = .returned v' ∧ Top Ad w'.heap.size w' 3 v' (checkL cs rs) ∧ Below w.heap.size w w' := by
  have hmm := @run_makeMap Tryz.prog
  obtain ⟨a, c, rfl, hcap, hlay⟩ := hC
  obtain ⟨a', c', rfl, hcap', hlay'⟩ := hQ
  have HL := hid hlay
  have HL' := hid hlay'
  have h40 : cs.length ≤ 40 := hsC.1
  have h40' : rs.length ≤ 40 := hsQ.1
  have h40i : (cs.length : Int) ≤ 40 := by omega
  have h40i' : (rs.length : Int) ≤ 40 := by omega
  have HSC := hid hsC
  have HSQ := hid hsQ
  have HE := hid hE
  clear hE hsC hsQ hlay hlay'
  go_enter Tryz.func30, Tryz.ntmps30
  go_wp2_with fail
  obtain ⟨w0, hw0⟩ : ∃ w0, w0 = w.alloc (.cells #[.slice a cs.length c, .slice a' rs.length c'] 52) := ⟨_, rfl⟩
  have hsz : Hid (w0.heap.size = w.heap.size + 1) := by rw [hw0]; simp [Hid]
  have B0 : Hid (Below w.heap.size w w0) := by rw [hw0]; exact (Below.refl _ _).alloc (Nat.le_refl _) _
  obtain ⟨x0, x1⟩ := cell_new2 w (.slice a cs.length c) (.slice a' rs.length c') 52
  rw [← hw0] at x0 x1 ⊢
  have X0 := hid x0
  have X1 := hid x1
  have MM : Hid (MapN (w0.alloc (.map #[] 0)) (w.heap.size + 1) 0 []) := by rw [← hsz.out]; exact World.ownsMap_made w0 Tryz.prog 9 _
  have BM : Hid (Below w0.heap.size w0 (w0.alloc (.map #[] 0))) := (Below.refl _ _).alloc (Nat.le_refl _) _
  have hszM : Hid ((w0.alloc (.map #[] 0)).heap.size = w.heap.size + 2) := by have := hsz.out; simp [Hid, this]
  have E0 := hid (HE.out.later B0.out)
  have T1 := hid (toomany_any Ad (w0.alloc (.map #[] 0)) (E0.out.later BM.out) ⟨#[99, 111, 109, 112, 111, 110, 101, 110, 116, 115]⟩ (cs.length : Int) 16)
  clear hw0 x0 x1 hmm
  refine T1.out.mono ?_
  rintro e w2 ⟨v2, rfl, o2, hb2⟩
  obtain ⟨hc2, -⟩ := (show v2.cells = #[v2] ∧ v2.oneCell' = true from by
    rcases o2 with ⟨rfl, -⟩ | ⟨p, -, h⟩
    · exact ⟨rfl, rfl⟩
    · obtain ⟨t, q, rfl, -⟩ := h.1.shape
      exact ⟨rfl, rfl⟩)
  unfold Value.cells at hc2
  have K3 : Hid (Ckd Ad w0 (w.heap.size + 1) (w.heap.size + 2) 0 [] (.slice (some ⟨w2.heap.size, 0, none⟩) 1 1) [(v2, manyL bComps 16 cs.length)] (w2.alloc (.cells #[v2] 46))) := by
    have b3 : Below w2.heap.size w2 (w2.alloc (.cells #[v2] 46)) := (Below.refl _ _).alloc (Nat.le_refl _) _
    have hs := hszM.out
    have hs2 := hb2.size
    have hs0 := hsz.out
    have b13 := hb2.trans (b3.mono hb2.size)
    refine ⟨MM.out.later b13, ?_, ?_, ?_, BM.out.trans (b13.mono BM.out.size), ⟨by omega, by omega⟩, ?_⟩
    · exact World.ownsRow_lit (base := w.heap.size + 2) (e := 46) (size := 1) w2 #[v2] 1 (by omega) (by unfold maxLen; omega) (by simp)
    · intro g hg s hs
      obtain rfl : w2.heap.size = g := by simpa [Value.ownBlock] using hg
      rw [new_cell w2 v2 46] at hs
      exact o2.cell.2 s (by simpa using hs)
    · intro u hu
      simp at hu
      subst hu
      exact o2.move b3 b3.size
    · simp; omega
  have B12 := hid (BM.out.trans (hb2.mono BM.out.size))
  have y0 := Below.seen B12.out (Nat.le_refl _) X0.out
  have y1 := Below.seen B12.out (Nat.le_refl _) X1.out
  have hl2 : w.heap.size < w2.heap.size := World.block_lt_of_cell? w2 _ y0
  have hn2 : ¬ (w.heap.size = w2.heap.size) := by omega
  clear o2 hb2 T1 MM BM
  go_wp2_with fail
  go_loopw [4, 5, 6, 18] (fun ev _ _ i wr => ∃ k : Nat, k ≤ cs.length ∧ i = .int .i64 (k : Int) ∧ ∃ us, Hid (Ckd Ad w0 (w.heap.size + 1) (w.heap.size + 2) k (seenTo ((cs.take k).map Cmp.s)) ev us wr ∧ 0 < us.length ∧ us.length ≤ 1 + 3 * k ∧ flat us = manyL bComps 16 cs.length ++ compL cs k)) (fun _ _ _ i _ => cs.length - (intOf i).toNat)
  case atStart => exact ⟨0, Nat.zero_le _, rfl, _, K3.out, by simp, by simp, by simp [flat, compL]⟩
  case round =>
    obtain ⟨k, hk, rfl, us, HK⟩ := hrel
    obtain ⟨ck, hu0, hul, hfl⟩ := HK.out
    have CK := hid ck
    have HF := hid hfl
    by_cases hlt : k < cs.length
    · have hki : (k : Int) < (cs.length : Int) := by omega
      obtain ⟨x, hx⟩ := at_lt cs k hlt
      obtain ⟨b, o, rfl, hc⟩ : ∃ b o, a = some ⟨b, o, none⟩ ∧ ∀ (j : Nat) (x : Cmp), cs[j]? = some x → w.cell? ⟨b, o + j * 7, none⟩ = some (.string x.s) ∧ w.cell? ⟨b, o + j * 7 + 1, none⟩ = some (.int .i64 x.wd) ∧ w.cell? ⟨b, o + j * 7 + 2, none⟩ = some (.bool x.rb) ∧ w.cell? ⟨b, o + j * 7 + 3, none⟩ = some (.int .i64 x.d0) ∧ w.cell? ⟨b, o + j * 7 + 4, none⟩ = some (.int .i64 x.d1) ∧ w.cell? ⟨b, o + j * 7 + 5, none⟩ = some (.int .i64 x.d2) ∧ w.cell? ⟨b, o + j * 7 + 6, none⟩ = some (.int .i64 x.d3) := by
        rcases HL.out with h | h
        · rw [h] at hlt; simp at hlt
        · exact h
      have BW := hid (B0.out.trans (ck.bel.mono B0.out.size))
      obtain ⟨c0, c1, c2, c3, c4, c5, c6⟩ := hc k x hx
      have S := fun {p : Addr} {u : Value} (h : w.cell? p = some u) => Below.seen BW.out (Nat.le_refl _) h
      have c0 := S c0
      have c1 := S c1
      have c2 := S c2
      have c3 := S c3
      have c4 := S c4
      have c5 := S c5
      have c6 := S c6
      have CN := hid (compL_next hx)
      have SN := hid (seen_next hx)
      have hxs : x.s.size ≤ 100 := HSC.out.2 x (List.mem_of_getElem? hx)
      obtain ⟨acc, HA⟩ : ∃ acc, Hid (acc = seenTo ((cs.take k).map Cmp.s)) := ⟨_, rfl⟩
      rw [← HA.out] at CK CN SN
      clear S hc hx ck hfl HK HA
      have K6 : Hid (C6 Ad w0 (w.heap.size + 1) (w.heap.size + 2) k acc u4 us wr.heap.size x [] (wr.alloc (.cells #[.string x.s, .int .i64 x.wd, .bool x.rb, .int .i64 x.d0, .int .i64 x.d1, .int .i64 x.d2, .int .i64 x.d3] 96))) := by
        have b : Below wr.heap.size wr (wr.alloc (.cells #[.string x.s, .int .i64 x.wd, .bool x.rb, .int .i64 x.d0, .int .i64 x.d1, .int .i64 x.d2, .int .i64 x.d3] 96)) := (Below.refl _ _).alloc (Nat.le_refl _) _
        have R := fun (j : Nat) (u : Value) (h : [Value.string x.s, .int .i64 x.wd, .bool x.rb, .int .i64 x.d0, .int .i64 x.d1, .int .i64 x.d2, .int .i64 x.d3][j]? = some u) => row_cell wr _ 96 j u h
        exact ⟨CK.out.later b, R 0 _ rfl, R 1 _ rfl, R 2 _ rfl, R 3 _ rfl, R 4 _ rfl, R 5 _ rfl, R 6 _ rfl, by simp⟩
      go_wp2_with fail
      generalize hwq : wr.alloc (.cells #[.string x.s, .int .i64 x.wd, .bool x.rb, .int .i64 x.d0, .int .i64 x.d1, .int .i64 x.d2, .int .i64 x.d3] 96) = wq at *
      have k6 := K6.out
      clear hwq c0 c1 c2 c3 c4 c5 c6
      obtain ⟨c0, c1, c2, c3, c4, c5, c6⟩ := k6.cells
      have k6d := k6.drew
      generalize wr.heap.size = g6 at *
      have h1000 : us.length ≤ 1000 := by omega
      go_region_held3 (fun W => W.cell? ⟨g6, 0, none⟩ = some (.string x.s) ∧ W.cell? ⟨g6, 1, none⟩ = some (.int .i64 x.wd) ∧ W.cell? ⟨g6, 2, none⟩ = some (.bool x.rb) ∧ W.cell? ⟨g6, 3, none⟩ = some (.int .i64 x.d0) ∧ W.cell? ⟨g6, 4, none⟩ = some (.int .i64 x.d1) ∧ W.cell? ⟨g6, 5, none⟩ = some (.int .i64 x.d2) ∧ W.cell? ⟨g6, 6, none⟩ = some (.int .i64 x.d3)) (first | go_keep | (exact C6.cells (by assumption))) (first
        | (go_at_call 63; refine (take_any Ad _ (C6.env (by assumption) E0.out) (w.heap.size + 1) k _ (C6.ck (by assumption)).map (by omega) x.s (by omega)).mono ?_; rintro e w7 ⟨rfl, hm7, hg7⟩; have h7 := C6.took (by assumption) hm7 hg7)
        | (go_at_call 62; refine (way3 Ad _ _ _ k (by omega) _ (by first | exact nErr_len _ _ | exact wErr_len _ | exact dErr_len _)).mono ?_; rintro e w8 ⟨v8, rfl, o8, hb8⟩; have h8 := C6.push (by assumption) hb8 o8; have s8 := o8.shape; unfold Value.cells at s8)
        | (go_at_call 64; refine (width7 Ad _ (C6.env (by assumption) E0.out) x).mono ?_; rintro e w9 ⟨rfl, hb9⟩; have h9 := C6.later (by assumption) hb9)
        | (go_at_call 65; refine (default7 Ad _ (C6.env (by assumption) E0.out) x).mono ?_; rintro e w9 ⟨rfl, hb9⟩; have h9 := C6.later (by assumption) hb9)
        | (refine step_errs3 (by rfl) _ _ (by rfl) (by assumption) (by rfl) hu0 h1000 (by rfl) (by rfl) ?_; intro g9 cap9 w10 hk10))
      have NX : Hid (∃ us', Ckd Ad w0 (w.heap.size + 1) (w.heap.size + 2) (k + 1) (seenTo ((cs.take (k + 1)).map Cmp.s)) (.slice (some ⟨g9, 0, none⟩) (us.length + 3) cap9) us' w10 ∧ 0 < us'.length ∧ us'.length ≤ 1 + 3 * (k + 1) ∧ flat us' = manyL bComps 16 cs.length ++ compL cs (k + 1)) := by
        have e := hk10.ck
        rw [← SN.out] at e
        refine ⟨_, e, by simp, by simp; omega, ?_⟩
        rw [flat_app, HF.out, CN.out, List.append_assoc]
        congr 2
        simp only [flat, leafC, List.nil_append, List.cons_append, List.map_cons, List.map_nil, List.flatten_cons, List.flatten_nil, List.append_nil]
        rfl
      clear hk10 h9 h8 h7 k6d k6 c0 c1 c2 c3 c4 c5 c6 o8 hb8 hm7 hg7 hb9
      go_wp2_with fail
      go_roundw
      case rel =>
        obtain ⟨us', hus'⟩ := NX.out
        exact ⟨k + 1, by omega, by go_num, us', hus'⟩
      case measure => simp [intOf]; omega
    · have hki : ¬ ((k : Int) < (cs.length : Int)) := by omega
      obtain rfl : k = cs.length := by omega
      rw [List.take_of_length_le (Nat.le_refl _)] at CK
      have x1 := Below.seen CK.out.bel (Nat.le_refl _) X1.out
      have T2 := hid (toomany_any Ad wr (E0.out.later CK.out.bel) ⟨#[114, 101, 115, 111, 117, 114, 99, 101, 115]⟩ (rs.length : Int) 8)
      obtain ⟨pa, pc, rfl⟩ := own_slice CK.out.row
      clear ck hfl HK
      go_wp2_with fail
      refine T2.out.mono ?_
      rintro e w5 ⟨v5, rfl, o5, hb5⟩
      have s5 := o5.shape
      unfold Value.cells at s5
      have CK5 := hid (CK.out.later hb5)
      have hum : (us.map Prod.fst).length = us.length := List.length_map _
      have OW : Hid ((w5.alloc (.cells #[v5] 46)).ownsRow (w.heap.size + 2) 46 1 (.slice pa us.length pc) (us.map Prod.fst).length (us.map Prod.fst)) := by rw [hum]; exact CK5.out.row.alloc _
      have A1 := hid (app_cell w5 v5)
      have A2 : Hid (∀ z ∈ [v5], z.oneCell' = true) := by intro z hz; simp at hz; rw [hz]; exact o5.cell.1
      have A3 : Hid ((us.map Prod.fst).length + [v5].length ≤ 5000) := by show _ ≤ _; rw [hum]; simp; omega
      have hBs : w.heap.size + 2 ≤ (w5.alloc (.cells #[v5] 46)).heap.size := Nat.le_trans CK5.out.high (by simp)
      have O5 := hid o5
      have X1a : Hid ((w5.alloc (.cells #[v5] 46)).cell? ⟨w.heap.size, 1, none⟩ = some (.slice a' rs.length c')) := Below.seen (CK5.out.later ((Below.refl _ _).alloc (Nat.le_refl _) (.cells #[v5] 46))).bel (Nat.le_refl _) X1.out
      have hlt2 : Hid (w.heap.size < w.heap.size + 2) := by show _ < _; omega
      clear o5 hb5 T2 hum
      go_wp2_with (at_builtin; refine wpList_errsG _ rfl (.tmp 41) (.tmp 46) rfl (w.heap.size + 2) _ (us.map Prod.fst) rfl OW.out w5.heap.size 1 [v5] rfl A1.out A2.out A3.out hBs ?_; intro ga gc y w6 hy ow hg bw; have z1 := (bw.out.cell (p := ⟨w.heap.size, 1, none⟩) hlt2.out).trans X1a.out)
      have K6 : Hid (∃ us', Ckd Ad w0 (w.heap.size + 1) (w.heap.size + 2) (cs.length + 0) (seenTo (cs.map Cmp.s ++ (rs.take 0).map Rsc.s)) (.slice ga y.length gc) us' w6 ∧ 0 < us'.length ∧ us'.length ≤ 2 + 3 * cs.length + 0 ∧ flat us' = manyL bComps 16 cs.length ++ compL cs cs.length ++ (manyL bRes 8 rs.length ++ resL cs rs 0)) := by
        have e := CK5.out.app (vs := [(v5, manyL bRes 8 rs.length)]) hu0 (by intro u hu; simp at hu; subst hu; exact O5.out) (by rw [hy.out]; rfl) ow.out hg.out
        refine ⟨_, by simpa using e, by simp, by simp; omega, ?_⟩
        rw [flat_app, HF.out]
        simp [flat, resL]
      clear z1 CK5 CK OW A1 A2 A3 hBs O5 hy ow hg bw x1 HF X1a s5
      go_loopw [4, 7, 8, 51] (fun ev _ _ i wr => ∃ k : Nat, k ≤ rs.length ∧ i = .int .i64 (k : Int) ∧ ∃ us, Hid (Ckd Ad w0 (w.heap.size + 1) (w.heap.size + 2) (cs.length + k) (seenTo (cs.map Cmp.s ++ (rs.take k).map Rsc.s)) ev us wr ∧ 0 < us.length ∧ us.length ≤ 2 + 3 * cs.length + k ∧ flat us = manyL bComps 16 cs.length ++ compL cs cs.length ++ (manyL bRes 8 rs.length ++ resL cs rs k))) (fun _ _ _ i _ => rs.length - (intOf i).toNat)
      case atStart =>
        obtain ⟨us', hus'⟩ := K6.out
        exact ⟨0, Nat.zero_le _, rfl, us', hus'⟩
      case round =>
        clear hul hu0
        obtain ⟨k, hk, rfl, us, HK⟩ := hrel
        obtain ⟨ck, hu0, hul, hfl⟩ := HK.out
        have CK := hid ck
        have HF := hid hfl
        by_cases hlt : k < rs.length
        · have hki : (k : Int) < (rs.length : Int) := by omega
          obtain ⟨x, hx⟩ := at_lt rs k hlt
          obtain ⟨b, o, rfl, hc⟩ : ∃ b o, a' = some ⟨b, o, none⟩ ∧ ∀ (j : Nat) (x : Rsc), rs[j]? = some x → w.cell? ⟨b, o + j * 2, none⟩ = some (.string x.s) ∧ w.cell? ⟨b, o + j * 2 + 1, none⟩ = some (.int .i64 x.n) := by
            rcases HL'.out with h | h
            · rw [h] at hlt; simp at hlt
            · exact h
          have BW := hid (B0.out.trans (ck.bel.mono B0.out.size))
          obtain ⟨c0, c1⟩ := hc k x hx
          have c0 := Below.seen BW.out (Nat.le_refl _) c0
          have c1 := Below.seen BW.out (Nat.le_refl _) c1
          have CN := hid (resL_next (cs := cs) hx)
          have SN := hid (seenR_next (cs := cs) hx)
          have hxs : x.s.size ≤ 100 := HSQ.out.2 x (List.mem_of_getElem? hx)
          obtain ⟨acc, HA⟩ : ∃ acc, Hid (acc = seenTo (cs.map Cmp.s ++ (rs.take k).map Rsc.s)) := ⟨_, rfl⟩
          rw [← HA.out] at CK CN SN
          have BA : Hid (Below wr.heap.size wr (wr.alloc (.cells #[.string x.s, .int .i64 x.n] 147))) := (Below.refl _ _).alloc (Nat.le_refl _) _
          have CA := hid (CK.out.later BA.out)
          have TA := hid (take_any Ad _ (E0.out.later CA.out.bel) (w.heap.size + 1) _ _ CA.out.map (by omega) x.s (by omega))
          clear hc hx ck hfl HK HA
          go_wp2_with fail
          refine TA.out.mono ?_
          rintro e w7 ⟨rfl, hm7, hg7⟩
          have C7 := hid (CA.out.took hm7 hg7)
          have WA := hid (way3 Ad w7 ⟨#[114, 101, 115, 111, 117, 114, 99, 101, 115]⟩ ⟨#[110, 97, 109, 101]⟩ k (by omega) _ (nErr_len acc x.s))
          clear hm7 hg7 TA CA
          go_wp2_with fail
          refine WA.out.mono ?_
          rintro e w8 ⟨v8, rfl, o8, hb8⟩
          have s8 := o8.shape
          unfold Value.cells at s8
          have C8 := hid (C7.out.later hb8)
          obtain ⟨pa, pc, hpv⟩ := own_slice C8.out.row
          have hum : (us.map Prod.fst).length = us.length := List.length_map _
          have OW : Hid ((w8.alloc (.cells #[v8] 46)).ownsRow (w.heap.size + 2) 46 1 u4 (us.map Prod.fst).length (us.map Prod.fst)) := by rw [hum]; exact C8.out.row.alloc _
          have A1 := hid (app_cell w8 v8)
          have A2 : Hid (∀ z ∈ [v8], z.oneCell' = true) := by intro z hz; simp at hz; rw [hz]; exact o8.cell.1
          have A3 : Hid ((us.map Prod.fst).length + [v8].length ≤ 5000) := by show _ ≤ _; rw [hum]; simp; omega
          have hBs : w.heap.size + 2 ≤ (w8.alloc (.cells #[v8] 46)).heap.size := Nat.le_trans C8.out.high (by simp)
          have O8 := hid o8
          clear o8 hb8 WA hum hpv C7
          go_wp2_with (at_builtin; refine wpList_errsG _ rfl (.tmp 56) (.tmp 63) rfl (w.heap.size + 2) _ (us.map Prod.fst) rfl OW.out w8.heap.size 1 [v8] rfl A1.out A2.out A3.out hBs ?_; intro ga2 gc2 y2 w9 hy2 ow2 hg2 bw2)
          have NX : Hid (∃ us', Ckd Ad w0 (w.heap.size + 1) (w.heap.size + 2) (cs.length + (k + 1)) (seenTo (cs.map Cmp.s ++ (rs.take (k + 1)).map Rsc.s)) (.slice ga2 y2.length gc2) us' w9 ∧ 0 < us'.length ∧ us'.length ≤ 2 + 3 * cs.length + (k + 1) ∧ flat us' = manyL bComps 16 cs.length ++ compL cs cs.length ++ (manyL bRes 8 rs.length ++ resL cs rs (k + 1))) := by
            have e := C8.out.app (vs := [(v8, at3 bRes k bName (nErr acc x.s))]) hu0 (by intro u hu; simp at hu; subst hu; exact O8.out) (by rw [hy2.out]; rfl) ow2.out hg2.out
            rw [← SN.out] at e
            refine ⟨_, e, by simp, by simp; omega, ?_⟩
            rw [flat_app, HF.out, CN.out]
            simp [flat]
          go_roundw
          case rel =>
            obtain ⟨us', hus'⟩ := NX.out
            exact ⟨k + 1, by omega, by go_num, us', hus'⟩
          case measure => simp [intOf]; omega
        · have hki : ¬ ((k : Int) < (rs.length : Int)) := by omega
          obtain rfl : k = rs.length := by omega
          have AL := hid (all_top Ad 3 u4 us wr (own_errs (by have := CK.out.row; rw [show us.length = (us.map Prod.fst).length by simp] at this; exact this)) (fun u hu => (CK.out.one u hu).top) (by omega) (by
            show (flat us).length ≤ 1000
            rw [HF.out]
            have h1 := compL_len cs cs.length
            have h2 := resL_len cs rs rs.length
            have h3 : (manyL bComps 16 cs.length).length ≤ 1 := by unfold manyL; split <;> simp
            have h4 : (manyL bRes 8 rs.length).length ≤ 1 := by unfold manyL; split <;> simp
            simp only [List.length_append]
            omega))
          have R : Hid ((us.map Prod.snd).flatten = checkL cs rs) := by show flat us = _; rw [HF.out]; rfl
          rw [R.out] at AL
          have BW := hid (B0.out.trans (CK.out.bel.mono B0.out.size))
          obtain ⟨pa, pc, rfl⟩ := own_slice CK.out.row
          clear ck hfl HK R
          go_wp2_with fail
          refine AL.out.mono ?_
          rintro e w9 ⟨v9, rfl, t9, hb9⟩
          have T9 := hid t9
          have B9 := hid (BW.out.trans (hb9.mono BW.out.size))
          clear t9 hb9 AL
          go_wp2_with fail
          go_ret
          exact ⟨_, rfl, T9.out, B9.out⟩
end Go.Proofs.YtoafpfheopgdkaaGreatDoor.Sc
namespace Go.Proofs.YtoafpfheopgdkaaGreatDoor.So
open Go.RowKit Go.Shelf Go.Maps
open Go.Proofs.YtoafpfheopgdkaaGreatDoor.Co (I64 I64_mid Pt Col CS)
open Go.Proofs.YtoafpfheopgdkaaGreatDoor.At (St bAl cell_blk blk_seen blk_free Ints Atl)
open Go.Proofs.YtoafpfheopgdkaaGreatDoor.Ro (RS Rol Ents entCells entCells_len)
open Go.Proofs.YtoafpfheopgdkaaGreatDoor.Rs (SD mskP Prt okW)
theorem rol_lower {B B' : Nat} {W : World} {rb t : Nat} {r : RS} {S : Nat → Prop} (h : Rol B W rb t r S) (hB : B' ≤ B) : Rol B' W rb t r S := by
  obtain ⟨gb, mb, fv, h1, h2⟩ := h
  exact ⟨gb, mb, fv, ⟨h1.box, h1.gens, World.ownsRow.mono h1.free hB, h1.map, h1.ok, h1.small, h1.old, ⟨Nat.le_trans hB h1.low.1, Nat.le_trans hB h1.low.2.1, Nat.le_trans hB h1.low.2.2⟩, h1.apart⟩, h2⟩
/-- A store that nobody stands in. -/
def madeS (ws : List Nat) (n : Nat) : SD := { ws := ws, sets := [0], r := RS.fresh n, p := List.replicate 64 [] }
theorem al_made {ws : List Nat} {n i g : Nat} : ¬ al (madeS ws n) i g := by
  rw [al_iff]
  rintro ⟨h1, h2⟩
  obtain ⟨h3, -⟩ := List.getElem?_eq_some_iff.1 h2
  apply h1
  simp [madeS, RS.fresh] at h3 ⊢
  omega
theorem lk_made (ws : List Nat) (n : Nat) : Lk none (fun _ => none) (List.replicate n (0, 0)) (madeS ws n) :=
  ⟨by simp [madeS, RS.fresh], fun _ _ h => absurd h al_made, fun _ _ h => (by cases h), fun _ _ h => absurd h al_made⟩
theorem Sto.made {B : Nat} {w2 w3 w4 W' : World} {rb ab sb tm sv n : Nat} {S2 S3 : Nat → Prop} {ws : List Nat} {lv : Value} (hB : B ≤ w2.heap.size) (hR : Rol w2.heap.size w3 rb 0 (RS.fresh n) S2) (hA : Atl w3.heap.size w4 ab ⟨ws.length, [0]⟩ S3) (b34 : Below w3.heap.size w3 w4) (b23 : w2.heap.size ≤ w3.heap.size) (b4 : Below w4.heap.size w4 W')
    (hbox : W'.heap[sb]? = some (.cells #[lv, .pointer (some ⟨ab, 0, none⟩), .map (some tm), .pointer (some ⟨rb, 0, none⟩), .slice (some ⟨sv, 0, none⟩) n n] 94 (0, 0))) (hmap : PMap W' tm (fun _ => none)) (hseat : W'.heap[sv]? = some (.cells (entCells (List.replicate n (0, 0))).toArray 168 (0, 0)))
    (hw : Ints w4.heap.size W' lv ws) (h1 : w4.heap.size ≤ sb) (h2 : w4.heap.size ≤ tm) (h3 : w4.heap.size ≤ sv) (hok : okW ws) :
    ∃ c : CV, Sto none B W' sb c (madeS ws n) ∧ c.t = 0 ∧ ∀ k, c.f k ≠ (0, 0, 0) → w2.heap.size ≤ k := by
  classical
  obtain ⟨f, hf⟩ : ∃ f : Nat → Nat × Nat × Nat, f = fun k => if k = sb ∨ k = tm ∨ k = sv ∨ lv.ownBlock = some k then (1, 0, 0) else if S2 k then (2, 0, 0) else if S3 k then (3, 0, 0) else (0, 0, 0) := ⟨_, rfl⟩
  have l34 := b34.size
  have l4 := b4.size
  have one : ∀ k, (k = sb ∨ k = tm ∨ k = sv ∨ lv.ownBlock = some k) → w4.heap.size ≤ k := fun k hk => by
    rcases hk with rfl | rfl | rfl | hk
    · exact h1
    · exact h2
    · exact h3
    · exact (hw.lt k hk).1
  have s2 : ∀ k, S2 k → w2.heap.size ≤ k ∧ k < w3.heap.size := fun k hk => hR.lt k hk
  have s3 : ∀ k, S3 k → w3.heap.size ≤ k ∧ k < w4.heap.size := fun k hk => hA.lt k hk
  have f1 : ∀ k, f k = (1, 0, 0) ↔ k = sb ∨ k = tm ∨ k = sv ∨ lv.ownBlock = some k := fun k => by
    rw [hf]
    show (if _ then _ else _) = _ ↔ _
    split
    · exact ⟨fun _ => by assumption, fun _ => rfl⟩
    · rename_i hn
      split
      · exact ⟨fun e => by simp at e, fun e => absurd e hn⟩
      · split
        · exact ⟨fun e => by simp at e, fun e => absurd e hn⟩
        · exact ⟨fun e => by simp at e, fun e => absurd e hn⟩
  have f2 : ∀ k, f k = (2, 0, 0) ↔ S2 k := fun k => by
    rw [hf]
    show (if _ then _ else _) = _ ↔ _
    split
    · rename_i hn
      exact ⟨fun e => by simp at e, fun e => by have := one k hn; have := s2 k e; omega⟩
    · split
      · exact ⟨fun _ => by assumption, fun _ => rfl⟩
      · rename_i hn
        split
        · exact ⟨fun e => by simp at e, fun e => absurd e hn⟩
        · exact ⟨fun e => by simp at e, fun e => absurd e hn⟩
  have f3 : ∀ k, f k = (3, 0, 0) ↔ S3 k := fun k => by
    rw [hf]
    show (if _ then _ else _) = _ ↔ _
    split
    · rename_i hn
      exact ⟨fun e => by simp at e, fun e => by have := one k hn; have := s3 k e; omega⟩
    · split
      · rename_i hn
        exact ⟨fun e => by simp at e, fun e => by have := s2 k hn; have := s3 k e; omega⟩
      · split
        · exact ⟨fun _ => by assumption, fun _ => rfl⟩
        · rename_i hn
          exact ⟨fun e => by simp at e, fun e => absurd e hn⟩
  have fany : ∀ k, f k ≠ (0, 0, 0) → (k = sb ∨ k = tm ∨ k = sv ∨ lv.ownBlock = some k) ∨ S2 k ∨ S3 k := fun k hk => by
    rw [hf] at hk
    change (if _ then _ else _) ≠ _ at hk
    split at hk
    · exact .inl (by assumption)
    · split at hk
      · exact .inr (.inl (by assumption))
      · split at hk
        · exact .inr (.inr (by assumption))
        · exact absurd rfl hk
  have hlt : ∀ k, f k ≠ (0, 0, 0) → w2.heap.size ≤ k ∧ k < W'.heap.size := fun k hk => by
    have L := fun {k : Nat} {o : Obj} (h : W'.heap[k]? = some o) => (Array.getElem?_eq_some_iff.1 h).1
    rcases fany k hk with q | q | q
    · have q' := one k q
      refine ⟨by omega, ?_⟩
      rcases q with rfl | rfl | rfl | q
      · exact L hbox
      · exact hmap.lt
      · exact L hseat
      · exact (hw.lt k q).2
    · have := s2 k q; exact ⟨this.1, by omega⟩
    · have := s3 k q; exact ⟨by omega, by omega⟩
  refine ⟨⟨lv, ab, tm, rb, sv, 0, List.replicate n (0, 0), fun _ => none, fun _ => ⟨0, .nilIface, 0, fun _ => 0⟩, f⟩, ⟨?_, ?_, ?_, ?_, hseat, ?_, fun n' own h => (by cases h), f1, fun k hk => ⟨Nat.le_trans hB (hlt k hk).1, (hlt k hk).2⟩, hok, by simp [madeS], lk_made ws n, fun k n' hk => ?_, by simp⟩, rfl, fun k hk => (hlt k hk).1⟩
  · unfold CV.box
    simpa using hbox
  · exact hw.lower (by omega)
  · exact atl_congr ((hA.later b4).lower (by omega)) f3
  · exact rol_congr (rol_lower ((hR.later b34).later b4) hB) f2
  · exact hmap
  · rcases fany k (cls_ne hk).1 with q | q | q
    · exact absurd ((f1 k).2 q) (cls_ne hk).2.1
    · exact absurd ((f2 k).2 q) (cls_ne hk).2.2.1
    · exact absurd ((f3 k).2 q) (cls_ne hk).2.2.2
end Go.Proofs.YtoafpfheopgdkaaGreatDoor.So
namespace Go.Proofs.YtoafpfheopgdkaaGreatDoor.So
open Go.RowKit Go.Shelf Go.Maps
open Go.Proofs.YtoafpfheopgdkaaGreatDoor.Ro (RS Rol Ents entCells entCells_len)
theorem infoSeat : (Tryz.prog.info? 168).map (fun i => (i.zero, i.size, i.bytes)) = some (some (.agg #[.int .i64 0, .int .i64 0]), 2, 16) := by kernel_rfl
theorem made_seats (n : Nat) : madeCells (Value.cells (.agg #[.int .i64 0, .int .i64 0])) (n * 2) = (entCells (List.replicate n (0, 0))).toArray := by
  have e0 : Value.cells (.agg #[.int .i64 0, .int .i64 0]) = #[.int .i64 0, .int .i64 0] := by simp [Value.cells]
  rw [e0]
  apply Array.toList_inj.1
  refine List.ext_getElem? fun t => ?_
  show _ = (entCells (List.replicate n (0, 0)))[t]?
  by_cases ht : t < n * 2
  · obtain ⟨p, hp⟩ : ∃ p : Nat × Nat, p = (0, 0) := ⟨_, rfl⟩
    have hr : (List.replicate n (0, 0) : List (Nat × Nat))[t / 2]? = some (0, 0) := by rw [List.getElem?_replicate, if_pos (by omega)]
    obtain ⟨e1, e2⟩ := ent_at hr
    rcases Nat.mod_two_eq_zero_or_one t with h | h
    · rw [show t / 2 * 2 = t by omega] at e1
      rw [e1]
      simp [madeCells, ht, h]
    · rw [show t / 2 * 2 + 1 = t by omega] at e2
      rw [e2]
      simp [madeCells, ht, h]
  · rw [List.getElem?_eq_none (by simp [madeCells]; omega), List.getElem?_eq_none (by rw [entCells_len]; simp; omega)]
theorem run_seats (W : World) (n : Nat) (hn : n ≤ 64) : (Instr.makeSlice 90 (.int .i64 (n : Int)) (.int .i64 (n : Int))).run Tryz.prog W = .ok (.slice (some ⟨W.heap.size, 0, none⟩) n n) (W.alloc (.cells (entCells (List.replicate n (0, 0))).toArray 168)) := by
  obtain ⟨i0, hi, hz0, hz1, hz2⟩ := info_parts infoSeat
  have h := run_makeSlice (P := Tryz.prog) W 90 168 i0 (.agg #[.int .i64 0, .int .i64 0]) Tryz.underlying90 hi hz0 .i64 .i64 (n : Int) (n : Int) (by omega) (by omega) (by rw [hz1]; simp; omega) (by rw [hz2]; omega) (by omega)
  rw [hz1, Int.toNat_natCast, made_seats] at h
  exact h
end Go.Proofs.YtoafpfheopgdkaaGreatDoor.So
namespace Go.Proofs.YtoafpfheopgdkaaGreatDoor.So
open Go.RowKit Go.Shelf Go.Maps
open Go.Proofs.YtoafpfheopgdkaaGreatDoor.At (St bAl cell_blk blk_seen blk_free Ints Atl)
open Go.Proofs.YtoafpfheopgdkaaGreatDoor.Ro (RS Rol Ents entCells entCells_len infoInt)
theorem step_wid {ops : Array Oper} {o : Oper} {a : Act} {K : Act → World → Prop} {Q : Exit → Act → World → Prop} {E : Prop} (hgd : o.guard = none) (s x : Operand)
    (ho : o.op = .call { callee := .builtin .append, args := #[s, x], argTypes := #[32, 32] }) {B sb : Nat} {wc : World} {ov : Value} {l : List Nat} {k : Nat} (hown : Ints B wc ov l) (hl : l.length ≤ 1000) (hB : B ≤ wc.heap.size)
    {cs : Array Value} (hbox : wc.heap[sb]? = some (.cells cs 94 (0, 0))) (hcs : cs[0]? = some ov) (hne : ov.ownBlock ≠ some sb)
    (hs : a.eval s = ov) (hx : a.eval x = .slice (some ⟨wc.heap.size, 0, none⟩) 1 1)
    (h : ∀ g' cap w2, Hid (Ints B w2 (.slice (some ⟨g', 0, none⟩) (l.length + 1) cap) (l ++ [k]) ∧ w2.heap[sb]? = some (.cells cs 94 (0, 0)) ∧ St (fun x => ov.ownBlock = some x) wc w2 ∧ (ov.ownBlock = some g' ∨ wc.heap.size ≤ g')) → w2.cell? ⟨sb, 0, none⟩ = some ov → w2.frozen? ⟨sb, 0, none⟩ = false → K (a.put o.dst (.slice (some ⟨g', 0, none⟩) (l.length + 1) cap)) w2) :
    if Region.wanted o (yielded ops a.tmps) = true then Oper.wp Tryz.prog o a (wc.alloc (.cells #[.int .i64 (k : Int)] 3)).drew K Q else E := by
  obtain ⟨i0, hi, hz0, hz1, hz2⟩ := info_parts infoInt
  have hb : Below wc.heap.size wc (wc.alloc (.cells #[.int .i64 (k : Int)] 3)).drew := ((Below.refl _ _).alloc (Nat.le_refl _) _).drew
  have ho2 : (wc.alloc (.cells #[.int .i64 (k : Int)] 3)).drew.ownsRow B 3 1 ov l.length (l.map At.gI) := World.ownsRow.alloc hown _
  have hz : (wc.alloc (.cells #[.int .i64 (k : Int)] 3)).drew.heap.size = wc.heap.size + 1 := by simp
  have hh := heap_alloc_new wc (.cells #[.int .i64 (k : Int)] 3)
  refine step_append_lies _ hgd s x 32 ho B 3 i0 (.int .i64 0) 1 8 Tryz.underlying32 hi hz0 hz1 hz2 rfl (by decide) ov l.length (l.map At.gI) hs ho2 ⟨wc.heap.size, 0, none⟩ 1 1 [At.gI k] hx rfl (fun j u hu => by
    rw [add_at]
    match j, hu with
    | 0, hu =>
      simp at hu
      subst hu
      exact cell_blk (W := wc.alloc _) hh rfl
    | j + 1, hu => simp at hu) (by intro u hu; simp at hu; subst hu; rfl) (by decide) (by unfold maxLen; omega) (by omega) (by omega) (wc.heap.size + 1) hz ?_
  intro g' cap w2 ow hg hat hlt
  have st : St (fun x => ov.ownBlock = some x) wc w2 := (St.of_below hb).trans (St.of_grown (S := fun x => ov.ownBlock = some x) hg fun k e => e) fun _ _ q => q
  have hb2 := st.at hbox hne
  refine h g' cap w2 ⟨?_, hb2, st, ?_⟩ (cell_blk hb2 hcs) (blk_free hb2 0)
  · show World.ownsRow _ _ _ _ _ _ _
    rw [List.map_append, List.length_append]
    exact ow
  · rcases hat with h1 | h1
    · exact .inl h1
    · exact .inr (by omega)
/-- How a new store stands while its widths come. -/
structure Nw (w4 w5 : World) (ab rb n : Nat) (l : List Nat) (lv : Value) (wr : World) : Prop where
  box : wr.heap[w4.heap.size + 2]? = some (.cells #[lv, .pointer (some ⟨ab, 0, none⟩), .map (some w4.heap.size), .pointer (some ⟨rb, 0, none⟩), .slice (some ⟨w4.heap.size + 1, 0, none⟩) n n] 94 (0, 0))
  row : Ints w5.heap.size wr lv l
  st : St (fun k => k = w4.heap.size + 2) w5 wr
theorem Nw.next {w4 w5 : World} {ab rb n : Nat} {l : List Nat} {lv lv' : Value} {wr wc w2 : World} {k : Nat} (h : Nw w4 w5 ab rb n l lv wr) (hz : w5.heap.size = w4.heap.size + 3) (hb : Below wr.heap.size wr wc) (h1 : Ints w5.heap.size w2 lv' (l ++ [k])) (h2 : w2.heap[w4.heap.size + 2]? = some (.cells #[lv, .pointer (some ⟨ab, 0, none⟩), .map (some w4.heap.size), .pointer (some ⟨rb, 0, none⟩), .slice (some ⟨w4.heap.size + 1, 0, none⟩) n n] 94 (0, 0))) (h3 : St (fun x => lv.ownBlock = some x) wc w2) : Nw w4 w5 ab rb n (l ++ [k]) lv' (w2.setCell ⟨w4.heap.size + 2, 0, none⟩ lv') := by
  have s1 := St.setCell (S := fun k => k = w4.heap.size + 2) (a := w2) (p := ⟨w4.heap.size + 2, 0, none⟩) lv' rfl
  have hlow := fun k hk => (h.row.lt k hk).1
  refine ⟨?_, own_kept h1 s1 fun k hk e => ?_, ?_⟩
  · have := heap_setCell_same w2 (w4.heap.size + 2) 0 _ _ lv' h2
    simpa using this
  · have := (h1.lt k hk).1; omega
  · refine ((h.st.trans (St.of_below (S := fun _ => False) hb) fun _ _ q => q.elim).trans h3 fun k hk e => ?_).trans s1 fun _ _ q => q
    have := hlow k e; omega
end Go.Proofs.YtoafpfheopgdkaaGreatDoor.So
namespace Go.Proofs.YtoafpfheopgdkaaGreatDoor.So
open Go.RowKit Go.Shelf Go.Maps
open Go.Proofs.YtoafpfheopgdkaaGreatDoor.Co (I64 I64_mid Pt Col CS)
open Go.Proofs.YtoafpfheopgdkaaGreatDoor.At (St bAl cell_blk blk_seen blk_free Ints Atl)
open Go.Proofs.YtoafpfheopgdkaaGreatDoor.Ro (RS Rol Ents entCells entCells_len)
open Go.Proofs.YtoafpfheopgdkaaGreatDoor.Rs (SD mskP Prt okW)
open Go.Proofs.YtoafpfheopgdkaaGreatDoor.Sc (Cmp Rsc CmpRow RscRow SmallC SmallQ checkL)
theorem top_nil {Ad : Nat → Addr} {n d : Nat} {W : World} {v : Value} (h : Top Ad n W d v []) : v = .nilIface := by
  rcases h with ⟨h, -⟩ | ⟨p, h, -⟩ | ⟨b, vs, -, h, hs⟩
  · exact h
  · simp at h
  · have e : vs.length = 0 := by simpa using (congrArg List.length h).symm
    have := hs.two
    omega
set_option maxHeartbeats 3200000 in
set_option maxRecDepth 100000 in
theorem new_ok (Ad : Nat → Addr) (W : World) (va vb : Value) (cs : List Cmp) (rs : List Rsc) (hE : Env8 W Ad) (hC : CmpRow W va cs) (hQ : RscRow W vb rs) (hsC : SmallC cs) (hsQ : SmallQ rs) (hck : checkL cs rs = []) (ws : List Nat) (hws : cs.map (fun c => c.wd) = ws.map fun (w : Nat) => (w : Int)) (hok : okW ws) (n : Nat) (hn : n ≤ 64) :
    Calls Tryz.prog 14 #[.agg #[va, vb], .int .i64 (n : Int)] W fun e W' => ∃ sb, e = .returned (.tuple #[.pointer (some ⟨sb, 0, none⟩), .nilIface]) ∧ ∃ c, Sto none W.heap.size W' sb c (madeS ws n) ∧ c.t = 0 ∧ Below W.heap.size W W' := by
  have hmm := @run_makeMap Tryz.prog
  obtain ⟨w1, hw1⟩ : ∃ w1, w1 = W.alloc (.cells #[va, vb] 52) := ⟨_, rfl⟩
  have b1 : Below W.heap.size W w1 := by rw [hw1]; exact bAl _ _
  have r1 : w1.heap[W.heap.size]? = some (.cells #[va, vb] 52 (0, 0)) := by rw [hw1]; exact heap_alloc_new W _
  have CK := hid (Sc.check_any Ad w1 va vb cs rs (hE.later b1) (hC.later b1) (hQ.later b1) hsC hsQ)
  rw [hck] at CK
  obtain ⟨a, cc, rfl, hcap, hlay⟩ := id hC
  obtain ⟨a', c', rfl, -, -⟩ := id hQ
  have x0 : w1.cell? ⟨W.heap.size, 0, none⟩ = some (.slice a cs.length cc) := cell_blk r1 rfl
  have x1 : w1.cell? ⟨W.heap.size, 1, none⟩ = some (.slice a' rs.length c') := cell_blk r1 rfl
  have hl16 : cs.length ≤ 16 := by have := congrArg List.length hws; simp at this; have := hok.1; omega
  have hlw : cs.length = ws.length := by have := congrArg List.length hws; simpa using this
  have HLW := hid hlw
  have hli : (cs.length : Int) ≤ 16 := by omega
  clear hlw
  have HW1 := hid hw1
  have B1 := hid b1
  have R1 := hid r1
  have HC := hid hC
  have HWS := hid hws
  have HOK := hid hok
  have hni : (n : Int) ≤ 64 := by omega
  have hn0 : (0 : Int) ≤ (n : Int) := by omega
  have hn0' : ¬ ((n : Int) < 0) := by omega
  have hse := fun w => run_seats w n hn
  have RN := hid fun w => Ro.rol_new w n hn
  have AN := hid fun w => At.new_ok w cs.length hl16
  clear hw1 b1 r1 hC hQ hsC hsQ hck hws hok hE hlay
  go_enter Tryz.func14, Tryz.ntmps14
  go_upto_region 1 with fail
  rw [← HW1.out]
  go_wp2_with fail
  refine CK.out.mono ?_
  rintro e w2 ⟨v', rfl, ht, hb2⟩
  obtain rfl := top_nil ht
  have B2 := hid (B1.out.trans (hb2.mono B1.out.size))
  have R2 := hid (blk_seen hb2 (Nat.le_refl _) R1.out)
  clear ht hb2 CK x0 x1
  go_wp2_with fail
  refine (RN.out w2).mono ?_
  rintro e w3 ⟨rb, S2, rfl, hr3, hb3⟩
  have R3 := hid hr3
  have B23 := hid hb3
  have q3 := blk_seen hb3 (Nat.le_refl _) R2.out
  have x0 : w3.cell? ⟨W.heap.size, 0, none⟩ = some (.slice a cs.length cc) := cell_blk q3 rfl
  have Q3 := hid q3
  clear hr3 hb3 RN q3
  go_wp2_with fail
  refine (AN.out w3).mono ?_
  rintro e w4 ⟨ab, S3, rfl, ha4, hb4⟩
  have A4 := hid ha4
  have B34 := hid hb4
  have Q4 := hid (blk_seen hb4 (Nat.le_refl _) Q3.out)
  clear ha4 hb4 AN x0
  obtain ⟨w5, hw5⟩ : ∃ w5, w5 = ((w4.alloc (.map #[] 0)).alloc (.cells (entCells (List.replicate n (0, 0))).toArray 168)).alloc (.cells #[.slice none 0 0, .pointer (some ⟨ab, 0, none⟩), .map (some w4.heap.size), .pointer (some ⟨rb, 0, none⟩), .slice (some ⟨w4.heap.size + 1, 0, none⟩) n n] 94) := ⟨_, rfl⟩
  have ba := bAl w4 (.map #[] 0)
  have bb := bAl (w4.alloc (.map #[] 0)) (.cells (entCells (List.replicate n (0, 0))).toArray 168)
  have bc := bAl ((w4.alloc (.map #[] 0)).alloc (.cells (entCells (List.replicate n (0, 0))).toArray 168)) (.cells #[.slice none 0 0, .pointer (some ⟨ab, 0, none⟩), .map (some w4.heap.size), .pointer (some ⟨rb, 0, none⟩), .slice (some ⟨w4.heap.size + 1, 0, none⟩) n n] 94)
  have na := heap_alloc_new (w4.alloc (.map #[] 0)) (.cells (entCells (List.replicate n (0, 0))).toArray 168)
  have nb := heap_alloc_new ((w4.alloc (.map #[] 0)).alloc (.cells (entCells (List.replicate n (0, 0))).toArray 168)) (.cells #[.slice none 0 0, .pointer (some ⟨ab, 0, none⟩), .map (some w4.heap.size), .pointer (some ⟨rb, 0, none⟩), .slice (some ⟨w4.heap.size + 1, 0, none⟩) n n] 94)
  have z5 : w5.heap.size = w4.heap.size + 3 := by rw [hw5]; simp
  rw [← hw5] at bc nb
  have S5 : Hid (w5.heap[w4.heap.size + 1]? = some (.cells (entCells (List.replicate n (0, 0))).toArray 168 (0, 0))) := by
    have := blk_seen bc (Nat.le_refl _) na
    rw [World.size_alloc] at this
    exact this
  have M5 : Hid (PMap w5 w4.heap.size (fun _ => none)) := ((pmap_made w4).kept (T := fun _ => False) (St.of_below bb) id).kept (T := fun _ => False) (St.of_below bc) id
  have B45 : Hid (Below w4.heap.size w4 w5) := (ba.trans (bb.mono ba.size)).trans (bc.mono (ba.trans (bb.mono ba.size)).size)
  have N5 : Hid (Nw w4 w5 ab rb n [] (.slice none 0 0) w5) := ⟨by rw [World.size_alloc, World.size_alloc] at nb; exact nb, World.ownsRow_nil _ _ _ _, St.of_below (Below.refl _ _)⟩
  have BW5 := hid ((B2.out.trans (B23.out.mono B2.out.size)).trans ((B34.out.trans (B45.out.mono B34.out.size)).mono (B2.out.trans (B23.out.mono B2.out.size)).size))
  have Q5 := hid (blk_seen B45.out (Nat.le_refl _) Q4.out)
  have x5 : w5.cell? ⟨W.heap.size, 0, none⟩ = some (.slice a cs.length cc) := cell_blk Q5.out rfl
  have HW5 := hid hw5
  clear ba bb bc na nb hw5
  go_upto_region 11 with fail
  rw [← HW5.out]
  clear hse hmm
  go_wp2_with fail
  go_loopg [12, 47] cs.length (fun gh _ i wr => ∃ k : Nat, k ≤ cs.length ∧ gh = cs.length - k ∧ i = .int .i64 (k : Int) ∧ ∃ lv, Hid (Nw w4 w5 ab rb n (ws.take k) lv wr))
  case atStart => exact ⟨0, Nat.zero_le _, rfl, rfl, _, N5.out⟩
  case round =>
    obtain ⟨k, hk, rfl, rfl, lv, HN⟩ := hrel
    by_cases hlt : k < cs.length
    · have hki : (k : Int) < (cs.length : Int) := by omega
      obtain ⟨x, hx⟩ := at_lt cs k hlt
      obtain ⟨wk, hwk⟩ := at_lt ws k (by rw [← HLW.out]; exact hlt)
      have hxw : x.wd = (wk : Int) := by
        have := congrArg (fun l => l[k]?) HWS.out
        simpa [hx, hwk] using this
      obtain ⟨b, o, rfl, hc⟩ : ∃ b o, a = some ⟨b, o, none⟩ ∧ ∀ (j : Nat) (x : Cmp), cs[j]? = some x → W.cell? ⟨b, o + j * 7, none⟩ = some (.string x.s) ∧ W.cell? ⟨b, o + j * 7 + 1, none⟩ = some (.int .i64 x.wd) ∧ W.cell? ⟨b, o + j * 7 + 2, none⟩ = some (.bool x.rb) ∧ W.cell? ⟨b, o + j * 7 + 3, none⟩ = some (.int .i64 x.d0) ∧ W.cell? ⟨b, o + j * 7 + 4, none⟩ = some (.int .i64 x.d1) ∧ W.cell? ⟨b, o + j * 7 + 5, none⟩ = some (.int .i64 x.d2) ∧ W.cell? ⟨b, o + j * 7 + 6, none⟩ = some (.int .i64 x.d3) := by
        obtain ⟨a2, c2, e1, -, e3⟩ := HC.out
        have e2 : a = a2 := by simpa using (Value.slice.inj e1).1
        rcases e3 with h | h
        · rw [h] at hlt; simp at hlt
        · rw [e2]; exact h
      obtain ⟨c0, c1, c2, c3, c4, c5, c6⟩ := hc k x hx
      have hWw : W.heap.size ≤ w4.heap.size := Nat.le_trans (Nat.le_trans B2.out.size B23.out.size) B34.out.size
      have S := fun {p : Addr} {u : Value} (h : W.cell? p = some u) => st_cell HN.out.st (At.seen BW5.out (Nat.le_refl _) h) (fun e => by have := World.block_lt_of_cell? W _ h; omega)
      have c0 := S c0
      have c1 := S c1
      have c2 := S c2
      have c3 := S c3
      have c4 := S c4
      have c5 := S c5
      have c6 := S c6
      rw [hxw] at c1
      obtain ⟨w6, hw6⟩ : ∃ w6, w6 = wr.alloc (.cells #[.string x.s, .int .i64 (wk : Int), .bool x.rb, .int .i64 x.d0, .int .i64 x.d1, .int .i64 x.d2, .int .i64 x.d3] 96) := ⟨_, rfl⟩
      have b6 : Below wr.heap.size wr w6 := by rw [hw6]; exact bAl _ _
      have r6 : w6.heap[wr.heap.size]? = some (.cells #[.string x.s, .int .i64 (wk : Int), .bool x.rb, .int .i64 x.d0, .int .i64 x.d1, .int .i64 x.d2, .int .i64 x.d3] 96 (0, 0)) := by rw [hw6]; exact heap_alloc_new wr _
      obtain ⟨l, hl⟩ : ∃ l, l = ws.take k := ⟨_, rfl⟩
      have HT : Hid (ws.take (k + 1) = l ++ [wk]) := by show _ = _; rw [List.take_add_one, hwk, hl]; rfl
      rw [← hl] at HN
      obtain ⟨oa, oc, rfl⟩ := HN.out.row.slice
      have hl9 : l.length ≤ 1000 := by rw [hl]; simp; omega
      have ROW := hid (HN.out.row.later b6)
      have BOX := hid (blk_seen b6 (Nat.le_refl _) HN.out.box)
      have y0 : w6.cell? ⟨w4.heap.size + 2, 0, none⟩ = some (.slice oa l.length oc) := cell_blk BOX.out rfl
      have y1 : w6.cell? ⟨wr.heap.size, 1, none⟩ = some (.int .i64 (wk : Int)) := cell_blk r6 rfl
      have hne : (Value.slice oa l.length oc).ownBlock ≠ some (w4.heap.size + 2) := fun e => by have := (ROW.out.lt _ e).1; omega
      have hB6 : w5.heap.size ≤ w6.heap.size := Nat.le_trans HN.out.st.size b6.size
      have htn : ¬ (w4.heap.size + 2 = w6.heap.size) := by omega
      have htw : w4.heap.size + 2 < w6.heap.size := by omega
      have hwn : ¬ (wr.heap.size = w6.heap.size) := by have := (Array.getElem?_eq_some_iff.1 r6).1; omega
      have hwl : wr.heap.size < w6.heap.size := (Array.getElem?_eq_some_iff.1 r6).1
      have B6 := hid b6
      have HW6 := hid hw6
      clear S hc hx hwk hxw hw6 b6 r6 hl
      go_upto_region 14 with fail
      rw [← HW6.out]
      go_region_law (refine step_wid (k := wk) rfl _ _ rfl ROW.out hl9 hB6 BOX.out rfl hne rfl rfl ?_; intro g' cap w7 hg hx7 hf7)
      all_goals
        have NX := hid (HN.out.next z5 B6.out hg.out.1 hg.out.2.1 hg.out.2.2.1)
        clear hx7 hf7
        go_wp2_with fail
        go_roundg (cs.length - (k + 1))
        case measure => omega
        case rel => exact ⟨k + 1, by omega, rfl, by go_num, _, by rw [HT.out]; exact NX.out⟩
    · have hki : ¬ ((k : Int) < (cs.length : Int)) := by omega
      have hkl : k = cs.length := by omega
      have hN := HN.out
      have ew : ws.take k = ws := List.take_of_length_le (by rw [hkl, HLW.out]; exact Nat.le_refl _)
      rw [ew] at hN
      have hA := A4.out
      rw [HLW.out] at hA
      have MD := hid (Sto.made (B := W.heap.size) (ws := ws) B2.out.size R3.out hA B34.out B23.out.size (B45.out.trans (hN.st.below (B := w4.heap.size) (fun q hq => by omega) B45.out.size)) hN.box (M5.out.kept hN.st (by omega)) (hN.st.at S5.out (by omega)) (hN.row.lower (by omega)) (by omega) (Nat.le_refl _) (by omega) HOK.out)
      have BB := hid (BW5.out.trans (hN.st.below (B := W.heap.size) (fun q hq => by have := B2.out.size; have := B23.out.size; have := B34.out.size; omega) BW5.out.size))
      clear hN hA ew
      go_wp2_with fail
      obtain ⟨c, e1, e2, -⟩ := MD.out
      exact bodyPost_ret (v := .tuple #[.pointer (some ⟨w4.heap.size + 2, 0, none⟩), .nilIface]) (by simp [results, Tryz.results14, go_sem]) rfl ⟨_, rfl, c, e1, e2, BB.out⟩
end Go.Proofs.YtoafpfheopgdkaaGreatDoor.So
namespace Go.Proofs.YtoafpfheopgdkaaGreatDoor.So
open Go.RowKit Go.Shelf Go.Maps
open Go.Proofs.YtoafpfheopgdkaaGreatDoor.Co (I64 I64_mid Pt Col CS)
open Go.Proofs.YtoafpfheopgdkaaGreatDoor.At (St bAl cell_blk blk_seen blk_free Ints Atl mtB)
open Go.Proofs.YtoafpfheopgdkaaGreatDoor.Ro (RS Rol Ents)
open Go.Proofs.YtoafpfheopgdkaaGreatDoor.Rs (SD mskP Prt Prts PRow okW fitP remP pCells)
open Go.Proofs.YtoafpfheopgdkaaGreatDoor.Sc (Cmp Rsc CmpRow RscRow SmallC SmallQ checkL)
/-- A block beside a store. -/
def Fr (c : CV) (W : World) (k : Nat) (o : Obj) : Prop := c.f k = (0, 0, 0) ∧ W.heap[k]? = some o
theorem Fr.later {c : CV} {W W' : World} {k : Nat} {o : Obj} (h : Fr c W k o) (hb : Below W.heap.size W W') : Fr c W' k o := ⟨h.1, blk_seen hb (Nat.le_refl _) h.2⟩
theorem Fr.step {c c' : CV} {W W' : World} {k : Nat} {o : Obj} (h : Fr c W k o) (g : Gw c c' W W') : Fr c' W' k o := by
  refine ⟨Classical.byContradiction fun q => ?_, g.st.at h.2 fun q => q h.1⟩
  rcases g.new k q with e | e
  · exact e h.1
  · have := (Array.getElem?_eq_some_iff.1 h.2).1; omega
theorem Fr.new {ex : Option Nat} {B : Nat} {W : World} {sb : Nat} {c : CV} {s : SD} (h : Sto ex B W sb c s) (cs : Array Value) (t : TypeId) : Fr c (W.alloc (.cells cs t)) W.heap.size (.cells cs t (0, 0)) :=
  ⟨Classical.byContradiction fun q => by have := (h.lt _ q).2; omega, heap_alloc_new W _⟩
theorem Fr.prow {c : CV} {W : World} {k cap : Nat} {l : List Prt} {cur : Array Value} (h : Fr c W k (.cells cur 71 (0, 0))) (h3 : l.length ≤ cap) (h4 : cap ≤ maxLen) (h5 : cur.size = cap * 6) (h6 : cur.toList.take (l.length * 6) = pCells l) : PRowOut (fun k => c.f k ≠ (0, 0, 0)) W (.slice (some ⟨k, 0, none⟩) l.length cap) l :=
  prow_out (prts_of (N := 0) (Nat.zero_le _) h.2 h3 h4 h5 h6) fun k' hk q => q (by obtain rfl : k = k' := (by simpa [Value.ownBlock] using hk); exact h.1)
theorem Gw.below {ex : Option Nat} {B : Nat} {W W' : World} {sb : Nat} {c c' : CV} {s : SD} (h : Sto ex B W sb c s) (g : Gw c c' W W') (hB : B ≤ W.heap.size) : Below B W W' := g.st.below (fun k hk => (h.lt k hk).1) hB
def cmpsTwo : List Cmp := [⟨⟨#[97]⟩, 1, true, 0, 0, 0, 0⟩, ⟨⟨#[98]⟩, 2, false, 0, 0, 0, 0⟩]
theorem two_ok : checkL cmpsTwo [] = [] := by kernel_rfl
theorem two_small : SmallC cmpsTwo ∧ SmallQ [] := by
  refine ⟨⟨by decide, fun c hc => ?_⟩, by decide, fun c hc => by simp at hc⟩
  simp [cmpsTwo] at hc
  rcases hc with rfl | rfl <;> decide
theorem two_w : okW [1, 2] := by
  refine ⟨by decide, fun w hw => ?_⟩
  simp at hw
  rcases hw with rfl | rfl <;> decide
def q1 : List Prt := [⟨1, 0, 0, 0, 0, 0⟩, ⟨0, 5, 0, 0, 0, 0⟩]
def q2 : List Prt := [⟨0, 0, 0, 0, 0, 0⟩, ⟨1, 0, 0, 0, 0, 0⟩]
def s0 : SD := madeS [1, 2] 4
def s1 : SD := entered { s0 with r := s0.r.took 0 } 0 (sortP q1)
def s2 : SD := entered { s1 with r := s1.r.took 1 } 1 (sortP q2)
def s3 : SD := entered s2 1 (remP (s2.at 1) 1)
def s4 : SD := rowed s3 0 (putP (s3.at 0) (setQ ⟨0, 5, 0, 0, 0, 0⟩ 0 9 3))
theorem f0 : s0.r.free = [3, 2, 1] ++ [0] := by kernel_rfl
theorem f1 : s1.r.free = [3, 2] ++ [1] := by kernel_rfl
theorem k0 : chkL s0.ws q1 = 0 := by decide
theorem k1 : chkL s1.ws q2 = 0 := by decide
theorem a20 : al s2 0 1 := by unfold al; kernel_rfl
theorem a21 : al s2 1 1 := by unfold al; kernel_rfl
theorem a30 : al s3 0 1 := by unfold al; kernel_rfl
theorem a31 : al s3 1 1 := by unfold al; kernel_rfl
theorem p20 : s2.at 0 = [⟨0, 5, 0, 0, 0, 0⟩, ⟨1, 0, 0, 0, 0, 0⟩] := by kernel_rfl
theorem p21 : s2.at 1 = [⟨0, 0, 0, 0, 0, 0⟩, ⟨1, 0, 0, 0, 0, 0⟩] := by kernel_rfl
theorem p30 : s3.at 0 = [⟨0, 5, 0, 0, 0, 0⟩, ⟨1, 0, 0, 0, 0, 0⟩] := by kernel_rfl
theorem p31 : s3.at 1 = [⟨0, 0, 0, 0, 0, 0⟩] := by kernel_rfl
theorem n4 : s4.r.count = 2 := by kernel_rfl
theorem m4 : s4.sets.length = 3 := by kernel_rfl
theorem d4 : (matched s4 1 0).length = 2 ∧ (matched s4 1 2).length = 1 ∧ (changedL s4 0 3).length = 1 := by decide
theorem a4 : s4.r.aliveB 1 1 = true := by kernel_rfl
theorem g0 : s0.r.gens.getD 0 0 + 1 = 1 ∧ s1.r.gens.getD 1 0 + 1 = 1 := by decide
end Go.Proofs.YtoafpfheopgdkaaGreatDoor.So
