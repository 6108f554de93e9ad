/- A part of the proof. -/
import Derived.RangeFuncFrom
import Derived.RangeFuncLeaves
import Derived.Test.YthadfdbkkmmgoaaGreatDoorRows
import Derived.WalkKit
import Derived.Laws.OwnMore
import Derived.Deep.AppendSrc
import Derived.RangeFuncNested
import Derived.RangeFuncBound
import Derived.RangeFuncCalls
import Derived.Shelf.Abstract
import Derived.OwnWalkIn
import Derived.TacticsInMore
import Derived.Deep.RegionHeldLaw
import Derived.Outline
import Derived.Maps.AppendAt
import Derived.LoopTactic
import Derived.LaidEql
import Derived.Stop.Asserts
import Derived.RowKitTokens
import Derived.Defers
import Derived.Recover
import Derived.Maps.OwnSet
import Derived.Laws.CopyRow
import Derived.Laws.BitsAllLaws
import Derived.Deep.RegionHeld3
import Derived.Deep.RegionLaw
import Derived.Deep.AppendLies
import Derived.Deep.QuietTactic
import Derived.BigQuiet
set_option maxHeartbeats 2000000
namespace Go.Proofs.YthadfdbkkmmgoaaGreatDoor
open Go.RowKit
structure Turn (P : Obj -> Prop) (B : Nat) (A A' : World) : Prop where
 os : A'.os = A.os
 tape : A'.tape = A.tape
 output : A'.output = A.output
 size : A.heap.size <= A'.heap.size
 block : ∀ (k : Nat) (o : Obj), A.heap[k]? = some o -> (k < B \/ ¬ P o) -> A'.heap[k]? = some o
theorem Turn.refl (P : Obj -> Prop) (B : Nat) (A : World) : Turn P B A A := ⟨rfl, rfl, rfl, Nat.le_refl _, fun _ _ h _ => h⟩
theorem Turn.trans {P : Obj -> Prop} {B : Nat} {a b c : World} (h : Turn P B a b) (k : Turn P B b c) : Turn P B a c :=
 ⟨k.os.trans h.os, k.tape.trans h.tape, k.output.trans h.output, Nat.le_trans h.size k.size, fun i o ho hp => k.block i o (h.block i o ho hp) hp⟩
theorem Turn.mono {P P' : Obj -> Prop} {B B' : Nat} {a b : World} (h : Turn P B a b) (hP : ∀ o, P o -> P' o) (hB : B' <= B) : Turn P' B' a b :=
 ⟨h.os, h.tape, h.output, h.size, fun i o ho hp => h.block i o ho (hp.elim (fun q => .inl (by omega)) (fun q => .inr fun hp => q (hP _ hp)))⟩
theorem Turn.put {P : Obj -> Prop} {B : Nat} {W : World} {l : Nat} {o : Obj} (o' : Obj) (hB : B <= l) (hl : W.heap[l]? = some o) (ho : P o) : Turn P B W (W.putObj l o') := by
 refine ⟨rfl, rfl, rfl, by simp, fun k q hq hp => ?_⟩
 by_cases e : k = l
 ·subst e
  rw [hl] at hq
  cases hq
  rcases hp with h | h
  ·omega
  exact absurd ho h
 exact (World.putObj_heap_other e).trans hq
theorem Turn.alloc (P : Obj -> Prop) (B : Nat) (W : World) (o : Obj) : Turn P B W (W.alloc o) :=
 ⟨rfl, rfl, rfl, by simp, fun k q hq _ => (Below.heap_alloc W o k (Array.getElem?_eq_some_iff.1 hq).1).trans hq⟩
theorem Turn.below {P : Obj -> Prop} {B : Nat} {a b : World} (h : Turn P B a b) (hB : B <= a.heap.size) : Below B a b :=
 ⟨h.os, h.tape, h.output, h.size, fun k hk => by
  have : k < a.heap.size := by omega
  rw [Array.getElem?_eq_getElem this]
  exact h.block k _ (Array.getElem?_eq_getElem this) (.inl hk)⟩
theorem Turn.of_below {P : Obj -> Prop} {B : Nat} {a b : World} (h : Below a.heap.size a b) : Turn P B a b :=
 ⟨h.os, h.tape, h.output, h.size, fun k _ hk _ => (h.block k (Array.getElem?_eq_some_iff.1 hk).1).trans hk⟩
def Odd (o : Obj) : Prop := o.isCells = false
variable {F : Fence} {n : Nat} {P : Program}
theorem zwf {α : Type} {g : Operand} {ps : Array Tmp} {assign body : Code} {Q : Exit -> Act -> World -> Prop} {a : Act} {w : World}
  (hro : F.round = none) (h1 : 1 <= n) {gf : Nat} {lb : Array Value} (hg : a.eval g = .func (.func gf) #[] lb) (hFg : F.fn gf) (eg : ∀ args w, (callFunc gf args).run P w = .ok (.enter gf args) w)
  (encs : α -> Array Value) (hps : ∀ x, (encs x).size = ps.size) (row : Obj -> Prop) (hrow : ∀ o, row o -> o.isCells = true) (R : List α -> α -> World -> Prop) (I : List α -> World -> Prop) (Ix : Code -> List α -> World -> Prop) (Kp : World -> World -> Prop) (S Sp : List α -> Prop)
  (hR : ∀ s x A B, R s x A -> Turn Odd w.heap.size A B -> R s x B)
  (hI : ∀ s A B, I s A -> Turn (fun o => row o \/ Odd o) w.heap.size A B -> I s B) (hIx : ∀ c s A B, Ix c s A -> Turn (fun o => row o \/ Odd o) w.heap.size A B -> Ix c s B) (h0 : I [] w)
  (n₀ : Nat) (hBi : ∀ s A, I s A -> Below n₀ w A) (hBx : ∀ c s A, Ix c s A -> Below n₀ w A)
  (hKt : ∀ {A B C : World}, Kp A B -> Kp B C -> Kp A C) (hKb : ∀ {A B : World}, Turn Odd w.heap.size A B -> Kp A B)
  (hseq : ∀ (l : Nat) (J Jx : List α -> World -> Prop) (W : World), Below w.heap.size w W -> (∀ s A B, J s A -> Turn row w.heap.size A B -> J s B) -> (∀ s A B, Jx s A -> Turn row w.heap.size A B -> Jx s B) →
   (∀ pre x W1, J pre W1 -> R pre x W1 -> YieldAt F (n - 1 - 1) P l (encs x) W1 fun e W' => (e = .returned (.bool true) /\ J (pre ++ [x]) W' /\ Kp W1 W') \/ (e = .returned (.bool false) /\ Jx (pre ++ [x]) W' /\ Below n₀ W1 W')) -> J [] W →
   CallsIn F (n - 1) P gf (#[.func (.yield l) #[] #[]] ++ lb) W fun e W' => (∃ v, e = .returned v) /\ ((∃ xs, S xs /\ J xs W') \/ (∃ pre, Sp pre /\ Jx pre W')))
  (a₁ : α -> Act)
  (hassign : ∀ (l : Nat) (x : α) (W : World) (K : Act -> World -> Prop), K (a₁ x) W →
   assign.wpIn (F.inRound l) (n - 1 - 1) P (Exit.then K (fun _ _ _ => False)) { tmps := (ps.zip (encs x)).foldl (fun t (p, v) => t.setIfInBounds p v) a.tmps, defers := [] } W)
  (hbody : ∀ (l : Nat) (pre : List α) (x : α) (W : World), w.heap.size <= l -> I pre W -> R pre x W -> body.wpIn (F.inRound l) (n - 1 - 1) P (ownPostK Kp I Ix (pre ++ [x]) W) (a₁ x) W)
  (hdone : ∀ (D : Nat) (xs : List α) (W : World), w.heap.size <= D -> S xs -> I xs W -> W.heap[D]? = some (.deferred (some [])) -> Q .normal { a with defers := { target := .collected D, args := #[] } :: a.defers } W)
  (hstop : ∀ (D : Nat) (c : Code) (pre : List α) (W : World), w.heap.size <= D -> Sp pre -> Ix c pre W -> W.heap[D]? = some (.deferred (some [])) -> c.wpIn F n P Q { a with defers := { target := .collected D, args := #[] } :: a.defers } W) :
  (Code.rangeFunc g ps assign body).wpIn F n P Q a w := by
 refine wpIn_rangeFunc fun fn hfn => ?_
 rw [hro]
 generalize hD : w.heap.size = D at *
 obtain ⟨book, hbook⟩ : ∃ book : LoopState -> Option Code -> Loop, ∀ st pe, book st pe = { state := st, pending := pe, fn, tmps := a.tmps, params := ps, assign, body, defers := D } := ⟨fun st pe => _, fun _ _ => rfl⟩
 obtain ⟨V, hV⟩ : ∃ V, V = (w.alloc (.deferred (some []))).alloc (.loop (book .ready none)) := ⟨_, rfl⟩
 have oddL : ∀ st pe, Odd (.loop (book st pe)) := fun _ _ => rfl
 have nrowL : ∀ st pe, ¬ row (.loop (book st pe)) := fun st pe h => by have := hrow _ h; cases this
 have nrowD : ¬ row (.deferred (some [])) := fun h => by have := hrow _ h; cases this
 have vD : V.heap[D]? = some (.deferred (some [])) := by
  rw [hV, <- hD]; exact (Below.heap_alloc _ _ _ (by simp)).trans (World.alloc_heap_new w _)
 have vL : V.heap[D + 1]? = some (.loop (book .ready none)) := by
  have := World.alloc_heap_new (w.alloc (.deferred (some []))) (.loop (book .ready none))
  rw [World.size_alloc, hD] at this
  rw [hV]; exact this
 have wV : Turn (fun o => row o \/ Odd o) D w V := by rw [hV]; exact (Turn.alloc _ _ _ _).trans (Turn.alloc _ _ _ _)
 have bV : Below D w V := wV.below (by omega)
 refine ⟨D + 1, [{ target := .collected D, args := #[] }], V, { target := .fn (.func gf) lb, args := #[.func (.yield (D + 1)) #[] #[]] }, V, gf, #[.func (.yield (D + 1)) #[] #[]] ++ lb, V, ?_, ?_, ?_, ?_, fun _ => h1, ?_⟩
 ·rw [hV, hbook, <- hD]; exact run_enterLoop_outer _ _ _ _ _
 ·simp only [resolve, hg]; simp [go_sem]
 ·intro f' hf'; simp [Target.leads] at hf'; subst hf'; exact hFg
 ·simp [invoke, go_sem, eg]
 have step : ∀ (A : World) (st st' : LoopState) (pe pe' : Option Code), A.heap[D + 1]? = some (.loop (book st pe)) -> A.heap[D]? = some (.deferred (some [])) →
   Turn Odd D A (A.putObj (D + 1) (.loop (book st' pe'))) /\ (A.putObj (D + 1) (.loop (book st' pe'))).heap[D + 1]? = some (.loop (book st' pe')) /\ (A.putObj (D + 1) (.loop (book st' pe'))).heap[D]? = some (.deferred (some [])) :=
  fun A st st' pe pe' hl hk => ⟨Turn.put _ (by omega) hl (oddL _ _), World.putObj_heap_same (Array.getElem?_eq_some_iff.1 hl).1, (World.putObj_heap_other (by omega)).trans hk⟩
 have toI : ∀ {A B : World}, Turn Odd D A B -> Turn (fun o => row o \/ Odd o) D A B := fun h => h.mono (fun _ => .inr) (Nat.le_refl _)
 have ofRow : ∀ {A B : World}, Turn row D A B -> Turn (fun o => row o \/ Odd o) D A B := fun h => h.mono (fun _ => .inl) (Nat.le_refl _)
 refine (hseq (D + 1) (fun pre W => I pre W /\ W.heap[D + 1]? = some (.loop (book .ready none)) /\ W.heap[D]? = some (.deferred (some [])))
  (fun pre W => ∃ c, Ix c pre W /\ W.heap[D + 1]? = some (.loop (book .done (some c))) /\ W.heap[D]? = some (.deferred (some []))) V bV ?_ ?_ ?_ ⟨hI _ _ _ h0 wV, vL, vD⟩).mono ?_
 ·rintro s A B ⟨h, hl, hk⟩ ht
  exact ⟨hI s A B h (ofRow ht), ht.block _ _ hl (.inr (nrowL _ _)), ht.block _ _ hk (.inr nrowD)⟩
 ·rintro s A B ⟨c, h, hl, hk⟩ ht
  exact ⟨c, hIx c s A B h (ofRow ht), ht.block _ _ hl (.inr (nrowL _ _)), ht.block _ _ hk (.inr nrowD)⟩
 ·rintro pre x W ⟨hi, hl, hk⟩ hr
  obtain ⟨t1, l1, k1⟩ := step W .ready .busy none none hl hk
  have hy := run_yield (P := P) (args := encs x) hl (by rw [hbook]; exact hps x)
  rw [hbook] at hy
  have hbg := run_beginRound (P := P) hl (by rw [hbook])
  rw [show ({ book .ready none with state := .busy } : Loop) = book .busy none by rw [hbook, hbook]] at hbg
  refine ⟨fn, _, assign, body, hy, roundIn_of_wpIn hfn (hassign _ x W _ ⟨_, hbg, ?_⟩)⟩
  refine wpIn_mono (hbody (D + 1) pre x _ (by omega) (hI _ _ _ hi (toI t1)) (hR _ _ _ _ hr t1)) ?_
  have close : ∀ (jump : Option Code) (W3 : World), KeepsOthers (W.putObj (D + 1) (.loop (book .busy none))) W3 →
    ∃ W4, (Instr.endRound (D + 1) jump).run P W3 = .ok (.bool jump.isNone) W4 /\ Turn Odd D W3 W4 /\ W4.heap[D + 1]? = some (.loop (book (if jump.isNone then .ready else .done) jump)) /\ W4.heap[D]? = some (.deferred (some [])) := fun jump W3 hk3 => by
   have l3 := hk3.same _ _ l1 rfl
   have k3 := hk3.same _ _ k1 rfl
   obtain ⟨t4, l4, k4⟩ := step W3 .busy (if jump.isNone then .ready else .done) none jump l3 k3
   have he := run_endRound (P := P) jump l3
   rw [show ({ book .busy none with state := if jump.isNone then .ready else .done, pending := jump } : Loop) = book (if jump.isNone then .ready else .done) jump by rw [hbook, hbook]] at he
   exact ⟨_, he, t4, l4, k4⟩
  have leave : ∀ (c : Code) (W3 : World), KeepsOthers (W.putObj (D + 1) (.loop (book .busy none))) W3 -> Ix c (pre ++ [x]) W3 -> ∃ v W4, (Instr.endRound (D + 1) (some c)).run P W3 = .ok v W4 ∧
    ((Ending.returned v = .returned (.bool true) /\ (I (pre ++ [x]) W4 /\ W4.heap[D + 1]? = some (.loop (book .ready none)) /\ W4.heap[D]? = some (.deferred (some []))) /\ Kp W W4) \/ (Ending.returned v = .returned (.bool false) /\ (∃ c, Ix c (pre ++ [x]) W4 /\ W4.heap[D + 1]? = some (.loop (book .done (some c))) /\ W4.heap[D]? = some (.deferred (some []))) /\ Below n₀ W W4)) := fun c W3 hk3 hx => by
   obtain ⟨W4, he, t4, l4, k4⟩ := close (some c) W3 hk3
   have hx4 := hIx _ _ _ _ hx (toI t4)
   have b0 := hBi _ _ hi
   have b4 := hBx _ _ _ hx4
   exact ⟨_, W4, he, .inr ⟨rfl, ⟨c, hx4, l4, k4⟩, b4.os.trans b0.os.symm, b4.tape.trans b0.tape.symm, b4.output.trans b0.output.symm, Nat.le_trans t1.size (Nat.le_trans hk3.size t4.size), fun k hk => (b4.block k hk).trans (b0.block k hk).symm⟩⟩
  rintro e a3 W3 hp
  cases e with
  | normal =>
   obtain ⟨hk3, hkp, hi3⟩ := hp
   obtain ⟨W4, he, t4, l4, k4⟩ := close none W3 hk3
   exact ⟨_, W4, he, .inl ⟨rfl, ⟨hI _ _ _ hi3 (toI t4), l4, k4⟩, hKt (hKt (hKb t1) hkp) (hKb t4)⟩⟩
  | ret => exact leave .ret W3 hp.1 hp.2
  | exit id => exact leave (.exit id) W3 hp.1 hp.2
  | goto t => exact leave (.goto t) W3 hp.1 hp.2
  | panic ch => exact hp.elim
  | outgrown => exact hp.elim
 rintro e W2 ⟨⟨v, rfl⟩, (⟨xs, hS, hi, hl, hk⟩ | ⟨pre, hSp, c, hi, hl, hk⟩)⟩
 ·obtain ⟨t4, l4, k4⟩ := step W2 .ready .exhausted none none hl hk
  have he := run_endLoop (P := P) hl (by rw [hbook]; simp)
  rw [show ({ book .ready none with state := .exhausted } : Loop) = book .exhausted none by rw [hbook, hbook], show (book .ready none).pending = none by rw [hbook]] at he
  exact ⟨none, _, he, hdone D xs _ (Nat.le_refl _) hS (hI _ _ _ hi (toI t4)) k4⟩
 obtain ⟨t4, l4, k4⟩ := step W2 .done .exhausted (some c) (some c) hl hk
 have he := run_endLoop (P := P) hl (by rw [hbook]; simp)
 rw [show ({ book .done (some c) with state := .exhausted } : Loop) = book .exhausted (some c) by rw [hbook, hbook], show (book .done (some c)).pending = some c by rw [hbook]] at he
 exact ⟨some c, _, he, hstop D c pre _ (Nat.le_refl _) hSp (hIx _ _ _ _ hi (toI t4)) k4⟩
theorem hid {p : Prop} (h : p) : Hid p := h
def sv (s : ByteArray) : Value := .string s
def isRow (o : Obj) : Prop := ∃ cur, o = .cells cur 9 (0, 0)
theorem zpg (o : Obj) (h : isRow o) : o.isCells = true := by obtain ⟨_, rfl⟩ := h; rfl
def zsg (o : Obj) : Prop := ∃ cur, o = .cells cur 9 (0, 0) \/ o = .cells cur 31 (0, 0)
def Trail (B : Nat) (w : World) (v : Value) (ts : List ByteArray) : Prop := w.ownsRow B 9 1 v ts.length (ts.map sv)
def Olds (B n : Nat) (w w' : World) : Prop := ∀ u ys, Trail B w u ys -> ys.length <= n -> Trail B w' u ys
theorem zas {w w' : World} {B n : Nat} {e : TypeId} {v : Value} {xs : List Value} (h : w.ownsRow B e 1 v n xs) (hb : ∀ g cur, v.ownBlock = some g -> w.heap[g]? = some (.cells cur e (0, 0)) -> w'.heap[g]? = some (.cells cur e (0, 0))) : w'.ownsRow B e 1 v n xs := by
 refine ⟨h.1, ?_⟩
 rcases h.2 with h1 | ⟨g, cap, cur, h1, h2, h3, h4⟩
 ·exact .inl h1
 exact .inr ⟨g, cap, cur, h1, h2, hb g cur (by rw [h1]; rfl) h3, h4⟩
theorem Trail.kept {B N : Nat} {w w' : World} {v : Value} {ts : List ByteArray} (h : Trail B w v ts) (ht : Turn (fun o => ¬ zsg o) N w w') : Trail B w' v ts :=
 zas h fun g cur _ hg => ht.block g _ hg (.inr fun q => q ⟨cur, .inl rfl⟩)
theorem Trail.grown {B : Nat} {w w' : World} {v : Value} {ts : List ByteArray} (h : Trail B w v ts) (hb : Below w.heap.size w w') : Trail B w' v ts :=
 zas h fun g _ _ hg => (hb.block g (Array.getElem?_eq_some_iff.1 hg).1).trans hg
theorem Tryz.yci : (Tryz.prog.info? 9).map (fun i => (i.zero, i.size, i.bytes)) = some (some (.string ⟨#[]⟩), 1, 16) := by kernel_rfl
theorem info_parts {x : Option TypeInfo} {z : Option Value} {s b : Nat} (h : x.map (fun i => (i.zero, i.size, i.bytes)) = some (z, s, b)) : ∃ i, x = some i /\ i.zero = z /\ i.size = s /\ i.bytes = b := by
 cases x with
 | none => simp at h
 | some i => simp at h; exact ⟨i, rfl, h.1, h.2.1, h.2.2⟩
theorem zbx (g j : Nat) : (⟨g, 0, none⟩ : Addr).add j = ⟨g, j, none⟩ := by unfold Addr.add; split <;> simp_all
theorem zyk (w : World) (ty : TypeId) (B : Nat) (v : Value) (ts : List ByteArray) (h : Trail B w v ts) (g : Nat) (t : ByteArray) (hg : w.cell? ⟨g, 0, none⟩ = some (.string t)) (hl : ts.length <= 1000) (hB : B <= w.heap.size) :
  ∃ v' w', (Builtin.append_ #[195, 195] ty #[v, .slice (some ⟨g, 0, none⟩) 1 1]).run Tryz.prog w = .ok v' w' /\ Trail B w' v' (ts ++ [t]) /\ Olds B ts.length w w' /\ Turn isRow B w w' := by
 obtain ⟨i, hi, hz, hs, hby⟩ := info_parts Tryz.yci
 have hnews : ∀ j u, [Value.string t][j]? = some u -> w.cell? ((⟨g, 0, none⟩ : Addr).add j) = some u := by
  intro j u hu
  cases j with
  | zero => simp at hu; subst hu; rw [zbx]; exact hg
  | succ j => simp at hu
 have h1 : ∀ u ∈ [Value.string t], u.oneCell' = true := by intro u hu; simp at hu; subst hu; rfl
 have hlen : (ts ++ [t]).length = ts.length + 1 := by simp
 have hmap : (ts ++ [t]).map sv = ts.map sv ++ [.string t] := by simp [sv]
 have fresh : ∀ (cap : Nat) (cur : Array Value), ts.length + 1 <= cap -> cap <= maxLen -> cur.size = cap -> cur.toList.take (ts.length + 1) = ts.map sv ++ [.string t] →
   Trail B (w.drew.alloc (.cells cur 9)) (.slice (some ⟨w.heap.size, 0, none⟩) (ts.length + 1) cap) (ts ++ [t]) /\ Olds B ts.length w (w.drew.alloc (.cells cur 9)) /\ Turn isRow B w (w.drew.alloc (.cells cur 9)) := by
  intro cap cur hc hm hsz htk
  have hbl : Below w.heap.size w (w.drew.alloc (.cells cur 9)) := (Below.refl _ _).drew.alloc (Nat.le_refl _) _
  refine ⟨?_, fun u ys hu _ => hu.grown hbl, Turn.of_below hbl⟩
  unfold Trail
  rw [hlen, hmap]
  exact ⟨by simp, .inr ⟨w.heap.size, cap, cur, rfl, hB, heap_alloc_new w.drew _, hc, hm, by simpa using hsz, by simpa using htk⟩⟩
 rcases h.2 with ⟨hv, h0⟩ | ⟨b, cap, cur, hv, hb, hblk, hnc, hcm, hcs, htk⟩
 ·have hts : ts = [] := List.eq_nil_of_length_eq_zero h0
  subst hts
  subst hv
  have hr := run_append_nil (P := Tryz.prog) w 195 ty 9 i (.string ⟨#[]⟩) Tryz.underlying195 hi hz ⟨g, 0, none⟩ 1 1 [.string t] (by simp [hs]) hnews (by decide) (by decide) (by rw [hby]; decide)
  have hge := grownCap_ge w 1 0 9
  refine ⟨_, _, hr, fresh _ _ hge (grownCap_le_maxLen w 1 0 9 (by simp [maxLen])) ?_ ?_⟩
  ·simp [size_zeroCells]; simp [Value.cells]; omega
  simp
 subst hv
 by_cases hroom : ts.length + 1 <= cap
 ·have hcell : ∀ j, j < [Value.string t].length -> (w.cell? ⟨b, 0 + ts.length * i.size + j, none⟩).isSome = true := by
   intro j hj
   simp at hj
   subst hj
   rw [hs]
   simp [World.cell?, hblk]
   omega
  have hfro : ∀ j, j < [Value.string t].length -> w.frozen? ⟨b, 0 + ts.length * i.size + j, none⟩ = false := by
   intro j hj
   simp at hj
   subst hj
   exact h.frozenAt _
  have hr := run_append_room_src (P := Tryz.prog) w 195 195 ty 9 i Tryz.underlying195 hi b 0 ts.length cap (.slice (some ⟨g, 0, none⟩) 1 1) 1 [.string t] (Src.ofSlice w Tryz.underlying195 ⟨g, 0, none⟩ 1 1 [.string t] (by simp [hs]) hnews h1) hroom hcell hfro
  have hset : w.setCells b (0 + ts.length * i.size) [.string t] = w.setCell ⟨b, ts.length, none⟩ (.string t) := by simp [World.setCells, hs]
  rw [hset] at hr
  refine ⟨_, _, hr, ?_, ?_, ?_⟩
  ·unfold Trail
   rw [hlen, hmap]
   refine ⟨by simp, .inr ⟨b, cap, cur.setIfInBounds ts.length (.string t), rfl, hb, heap_setCell_same w b ts.length cur 9 (.string t) hblk, hroom, hcm, by simpa using hcs, ?_⟩⟩
   have hsz : ts.length < cur.toList.length := by simp; omega
   simp only [Nat.mul_one] at htk ⊢
   rw [Array.toList_setIfInBounds, List.take_succ_eq_append_getElem (by simpa using hsz), List.take_set_of_le (Nat.le_refl _), htk]
   simp
  ·intro u ys hu hle
   rcases hu.2 with h2 | ⟨g', cap', cur', h2, h3⟩
   ·exact ⟨hu.1, .inl h2⟩
   by_cases e : g' = b
   ·subst e
    subst h2
    have h4 := (World.ownsRow.stored hu ts.length (.string t)).1
    have h5 : (ys.map sv).set ts.length (.string t) = ys.map sv := List.set_eq_of_length_le (by simpa using hle)
    rw [h5] at h4
    exact h4
   exact zas hu fun g2 cur2 hg2 hh => by
    rw [Below.heap_setCell _ _ _ _ (fun e2 => e (by rw [h2] at hg2; simp [Value.ownBlock] at hg2; exact hg2.trans e2))]; exact hh
  refine ⟨rfl, rfl, rfl, by simp, fun k o ho hp => ?_⟩
  by_cases e : k = b
  ·subst e
   rw [hblk] at ho
   cases ho
   rcases hp with hp | hp
   ·omega
   exact absurd ⟨cur, rfl⟩ hp
  rw [Below.heap_setCell _ _ _ _ (by exact e)]; exact ho
 have hfit : Builtin.nextslicecap (ts.length + 1) cap * i.bytes <= 281474976710656 := growslice_fits (by omega) (by rw [hby]; omega)
 have holds : ∀ j u, (ts.map sv)[j]? = some u -> w.cell? ((⟨b, 0, none⟩ : Addr).add j) = some u := World.ownsRow.cells h (g := b) rfl
 have hr := run_append_grow (P := Tryz.prog) w 195 ty 9 i (.string ⟨#[]⟩) Tryz.underlying195 hi hz ⟨b, 0, none⟩ ts.length cap (ts.map sv) (by simp [hs]) holds ⟨g, 0, none⟩ 1 1 [.string t] (by simp [hs]) hnews (by omega) (by omega) hfit
 have hge := grownCap_ge w (ts.length + 1) cap 9
 refine ⟨_, _, hr, fresh _ _ hge (grownCap_le_maxLen w _ cap 9 (by simp [maxLen]; omega)) ?_ ?_⟩
 ·simp [size_zeroCells]; simp [Value.cells]; omega
 simp only [Array.toList_append, List.append_assoc]
 rw [<- List.append_assoc]
 exact List.take_left' (by simp)
end Go.Proofs.YthadfdbkkmmgoaaGreatDoor
namespace Go.Proofs.YthadfdbkkmmgoaaGreatDoor
open Go.RowKit Go.Shelf
section
attribute [local go_sem] Oper.semAt_some
theorem z7y (v : Value) (xT : TypeId) (w : World) : (Instr.typeAssert (.iface 330 v) xT 159 true).run Tryz.prog w = .ok (.tuple #[.pointer none, .bool false]) w := by kernel_rfl
theorem znx (v : Value) (xT : TypeId) (w : World) : (Instr.typeAssert (.iface 330 v) xT 235 true).run Tryz.prog w = .ok (.tuple #[.pointer none, .bool false]) w := by kernel_rfl
theorem z3n (v : Value) (xT : TypeId) (w : World) : (Instr.typeAssert (.iface 159 v) xT 159 true).run Tryz.prog w = .ok (.tuple #[v, .bool true]) w := by kernel_rfl
set_option maxRecDepth 100000 in
theorem z0e (l : Nat) (a : Addr) (tr : Value) (n : Nat) (W : World) (R : Ending -> World -> Prop)
  (hY : YieldAt Fence.wide n Tryz.prog l #[tr, .iface 330 (.pointer (some a))] W fun e W' => (∃ b : Bool, e = .returned (.bool b)) /\ R e W') :
  Calls Tryz.prog 136 #[tr, .iface 330 (.pointer (some a)), .func (.yield l) #[] #[]] W R := by
 have n1 := z7y (.pointer (some a)) 31 W
 have n2 := znx (.pointer (some a)) 31 W
 obtain ⟨fn, tmps, assign, body, hy, hR⟩ := hY
 refine callsIn_wide (n := n + 1) |>.1 ?_
 refine callsIn_of_wp Tryz.func136 rfl trivial ?_ rfl
 simp only [Tryz.ntmps136, List.size_toArray, List.length_cons, List.length_nil, Nat.reduceAdd, Nat.reduceSub, Array.replicate_succ, Array.replicate_zero, List.push_toArray, List.append_toArray, List.nil_append, List.cons_append]
 gi_wp2_with ((try refine ⟨fun h => (by cases h), ?_⟩); refine hR.mono ?_; clear hR; rintro e W2 ⟨⟨b, rfl⟩, hb⟩)
 exact hb
end
theorem zvr {ops : Array Oper} {o : Oper} {a : Act} {K : Act -> World -> Prop} {Q : Exit -> Act -> World -> Prop} {E : Prop} (w : World) (hw : Region.wanted o (yielded ops a.tmps) = true) (s x : Operand)
  (ho : o.op = .call { callee := .builtin .append, args := #[s, x], argTypes := #[195, 195] })
  (B : Nat) (v : Value) (ts : List ByteArray) (hs : a.eval s = v) (h : Trail B w v ts) (g : Nat) (t : ByteArray) (hx : a.eval x = .slice (some ⟨g, 0, none⟩) 1 1) (hg : w.cell? ⟨g, 0, none⟩ = some (.string t)) (hl : ts.length <= 1000) (hB : B <= w.heap.size)
  (hK : ∀ v' w', Hid (Trail B w' v' (ts ++ [t])) -> Hid (Olds B ts.length w w') -> Hid (Turn isRow B w w') -> K (a.put o.dst v') w') :
  if Region.wanted o (yielded ops a.tmps) = true then Oper.wp Tryz.prog o a w K Q else E := by
 rw [if_pos hw]
 obtain ⟨v', w', hr, h2, h3, h4⟩ := zyk w o.type B v ts h g t hg hl hB
 unfold Oper.wp execOp
 simp only [ho, resolve, invoke, builtin, Sem.run_bind, Sem.run_pure, Result.andThen_ok, List.map_toArray, List.map_cons, List.map_nil, hs, hx, hr]
 exact hK v' w' h2 h3 h4
theorem zbz (w : World) (x : Value) (e : TypeId) : (w.alloc (.cells #[x] e)).cell? ⟨w.heap.size, 0, none⟩ = some x := by
 have h := heap_alloc_new w (.cells #[x] e)
 unfold World.cell?; rw [show (⟨w.heap.size, 0, none⟩ : Addr).block = w.heap.size from rfl, h]; rfl
theorem Turn.cell {P : Obj -> Prop} {B : Nat} {w w' : World} (h : Turn P B w w') {p : Addr} {x : Value} (hc : w.cell? p = some x) (hp : p.block < B) : w'.cell? p = some x := by
 have hlt := World.block_lt_of_cell? w p hc
 have hb := h.block p.block _ (Array.getElem?_eq_getElem hlt) (.inl hp)
 rw [World.cell?_of_block (w := w) (hb.trans (Array.getElem?_eq_getElem hlt).symm)]; exact hc
set_option maxRecDepth 100000 in
theorem zkq (l b B n₀ : Nat) (s : ByteArray) (inner : Value) (W : World) (tv : Value) (ts : List ByteArray) (Post : Bool -> World -> Prop)
  (hbn : b < n₀) (hnB : n₀ <= B) (hB : B <= W.heap.size) (hl : ts.length <= 1000)
  (c0 : W.cell? ⟨b, 0, none⟩ = some (.string s)) (c1 : W.cell? ⟨b, 1, none⟩ = some inner) (ht : Trail B W tv ts)
  (hin : ∀ v2 w2, Trail B w2 v2 (ts ++ [s]) -> Olds B ts.length W w2 -> Turn isRow B W w2 -> Calls Tryz.prog 136 #[v2, inner, .func (.yield l) #[] #[]] w2 fun e w3 => ∃ r, e = .returned (.bool r) /\ Below n₀ W w3 /\ Post r w3) :
  Calls Tryz.prog 136 #[tv, .iface 159 (.pointer (some ⟨b, 0, none⟩)), .func (.yield l) #[] #[]] W fun e w3 => ∃ r, e = .returned (.bool r) /\ Below n₀ W w3 /\ Post r w3 := by
 have hbB : b < B := by omega
 have n1 := z3n (.pointer (some ⟨b, 0, none⟩)) 31 W
 have HI := hid hin
 have hbl : Below W.heap.size W (W.drew.alloc (.cells #[.string s] 9)) := (Below.refl _ _).drew.alloc (Nat.le_refl _) _
 have T1 := hid (ht.grown hbl)
 have O1 := hid (show Olds B ts.length W (W.drew.alloc (.cells #[.string s] 9)) from fun u ys hu _ => hu.grown hbl)
 have U1 := hid (show Turn isRow B W (W.drew.alloc (.cells #[.string s] 9)) from Turn.of_below hbl)
 have N1 := hid (zbz W.drew (.string s) 9)
 have HC := hid (fun w2 (h : Turn isRow B W w2) => show w2.cell? ⟨b, 0, none⟩ = some (.string s) /\ w2.cell? ⟨b, 1, none⟩ = some inner from ⟨h.cell (p := ⟨b, 0, none⟩) c0 hbB, h.cell (p := ⟨b, 1, none⟩) c1 hbB⟩)
 have HD := hid (fun w2 (h : Below n₀ W w2) => show w2.cell? ⟨b, 0, none⟩ = some (.string s) /\ w2.cell? ⟨b, 1, none⟩ = some inner from ⟨(h.cell (p := ⟨b, 0, none⟩) hbn).trans c0, (h.cell (p := ⟨b, 1, none⟩) hbn).trans c1⟩)
 clear hin ht hbl
 go_enter Tryz.func136, Tryz.ntmps136
 go_wp2
 go_region_held_law (fun w' => w'.cell? ⟨b, 0, none⟩ = some (.string s) /\ w'.cell? ⟨b, 1, none⟩ = some inner) (first | assumption | go_keep)
  (first
   | (refine zvr _ (by rfl) (.tmp 20) (.tmp 25) rfl B tv ts rfl ?_ W.heap.size s rfl ?_ hl ?_ ?_; exact T1.out; exact N1.out; exact Nat.le_trans hB (by simp); intro v2 w2 t2 o2 u2; have hS := HC.out w2 (U1.out.trans u2.out); have IH := hid (HI.out v2 w2 t2.out (fun u ys hu hc => o2.out u ys (O1.out u ys hu hc) hc) (U1.out.trans u2.out)))
   | (go_at_call 136; refine IH.out.mono ?_; rintro e w3 ⟨r, rfl, hb3, hp⟩; have hS3 := HD.out w3 hb3; have HP := hid (And.intro hb3 hp); clear hp hb3))
 go_wp2
 go_ret
 exact ⟨r, rfl, HP.out.1, HP.out.2⟩
def Ch (Ad : Nat -> Addr) (n₀ : Nat) (W : World) (k : Nat) : List ByteArray -> Value -> Prop
 | [], v => v = .iface 330 (.pointer (some (Ad k)))
 | s :: ws, v => ∃ b inner, v = .iface 159 (.pointer (some ⟨b, 0, none⟩)) /\ b < n₀ /\ W.cell? ⟨b, 0, none⟩ = some (.string s) /\ W.cell? ⟨b, 1, none⟩ = some inner /\ Ch Ad n₀ W k ws inner
theorem Ch.below {Ad : Nat -> Addr} {n₀ k : Nat} {W W' : World} (h : Below n₀ W W') : ∀ {ws : List ByteArray} {v : Value}, Ch Ad n₀ W k ws v -> Ch Ad n₀ W' k ws v
 | [], _, hc => hc
 | _ :: _, _, ⟨b, inner, hv, hb, c0, c1, hi⟩ => ⟨b, inner, hv, hb, (h.cell (p := ⟨b, 0, none⟩) hb).trans c0, (h.cell (p := ⟨b, 1, none⟩) hb).trans c1, Ch.below h hi⟩
theorem Ch.wider {Ad : Nat -> Addr} {n₀ n₁ k : Nat} {W : World} (h : n₀ <= n₁) : ∀ {ws : List ByteArray} {v : Value}, Ch Ad n₀ W k ws v -> Ch Ad n₁ W k ws v
 | [], _, hc => hc
 | _ :: _, _, ⟨b, inner, hv, hb, c0, c1, hi⟩ => ⟨b, inner, hv, by omega, c0, c1, Ch.wider h hi⟩
structure Lf where
 tv : Value
 ts : List ByteArray
 k : Nat
def encs (Ad : Nat -> Addr) (x : Lf) : Array Value := #[x.tv, .iface 330 (.pointer (some (Ad x.k)))]
def Lf.pair (x : Lf) : List ByteArray × Nat := (x.ts, x.k)
def Handed (B : Nat) (full : List (List ByteArray × Nat)) (pre : List Lf) (x : Lf) (W : World) : Prop := Trail B W x.tv x.ts /\ 1 <= x.k /\ x.k <= 18 /\ pre.map Lf.pair ++ [x.pair] <+: full
def isErr (o : Obj) : Prop := ∃ cur, o = .cells cur 31 (0, 0)
def Kp (n₀ : Nat) (A B : World) : Prop := Turn (fun o => ¬ zsg o) n₀ A B
def Yields (Ad : Nat -> Addr) (l B n₀ : Nat) (full : List (List ByteArray × Nat)) (J Jx : List Lf -> World -> Prop) : Prop := ∀ n pre x W, J pre W -> Handed B full pre x W -> YieldAt Fence.wide n Tryz.prog l (encs Ad x) W fun e W' =>
 (e = .returned (.bool true) /\ J (pre ++ [x]) W' /\ Kp n₀ W W') \/ (e = .returned (.bool false) /\ Jx (pre ++ [x]) W' /\ Below n₀ W W')
def Went (B n₀ : Nat) (J Jx : List Lf -> World -> Prop) (m : Nat) (pre : List Lf) (ls : List (List ByteArray × Nat)) (W : World) (r : Bool) (W' : World) : Prop :=
 (r = true -> (∃ xs, xs.map Lf.pair = ls /\ J (pre ++ xs) W') /\ Olds B m W W' /\ Turn (fun o => ¬ isErr o) n₀ W W') ∧
 (r = false -> ∃ xs, xs.map Lf.pair <+: ls /\ Jx (pre ++ xs) W')
theorem z4e (o : Obj) (h : ¬ zsg o) : ¬ isErr o := fun ⟨cur, e⟩ => h ⟨cur, .inr e⟩
theorem zxg (o : Obj) (h : isRow o) : ¬ isErr o := fun ⟨cur, e⟩ => by obtain ⟨c, rfl⟩ := h; cases e
theorem ycl {m : Nat} (m' : Nat) {l : Nat} {args : Array Value} {W : World} {R : Ending -> World -> Prop} (h : YieldAt Fence.wide m Tryz.prog l args W R) : YieldAt Fence.wide m' Tryz.prog l args W R := by
 obtain ⟨fn, tmps, assign, body, hy, hR⟩ := h
 exact ⟨fn, tmps, assign, body, hy, hR.1, fun c cs _ => hR.2 c cs (fun d h => by cases h)⟩
theorem zui (Ad : Nat -> Addr) (l B n₀ : Nat) (full : List (List ByteArray × Nat)) (J Jx : List Lf -> World -> Prop) (hJ : ∀ s A A', J s A -> Turn isRow B A A' -> J s A') (hY : Yields Ad l B n₀ full J Jx) (hnB : n₀ <= B) (k : Nat) (hk : 1 <= k /\ k <= 18) :
  ∀ (ws : List ByteArray) (v tv : Value) (ts : List ByteArray) (pre : List Lf) (W : World), Ch Ad n₀ W k ws v -> Trail B W tv ts -> J pre W -> ts.length + ws.length <= 1000 -> B <= W.heap.size -> pre.map Lf.pair ++ [(ts ++ ws, k)] <+: full →
   Calls Tryz.prog 136 #[tv, v, .func (.yield l) #[] #[]] W fun e w3 => ∃ r, e = .returned (.bool r) /\ Below n₀ W w3 /\ Went B n₀ J Jx ts.length pre [(ts ++ ws, k)] W r w3 := by
 intro ws
 induction ws with
 | nil =>
  intro v tv ts pre W hc ht hj hl hB hg
  rw [List.append_nil] at hg
  obtain rfl : v = .iface 330 (.pointer (some (Ad k))) := hc
  obtain ⟨fn, tmps, assign, body, hy, hR⟩ := hY 0 pre ⟨tv, ts, k⟩ W hj ⟨ht, hk.1, hk.2, hg⟩
  refine z0e l (Ad k) tv 0 W _ ⟨fn, tmps, assign, body, hy, hR.mono ?_⟩
  rintro e w3 (⟨rfl, hj3, hkp⟩ | ⟨rfl, hx3, hb⟩)
  ·refine ⟨⟨_, rfl⟩, true, rfl, Turn.below hkp (by omega), fun _ => ⟨⟨[⟨tv, ts, k⟩], by simp [Lf.pair], hj3⟩, fun u ys hu _ => hu.kept hkp, Turn.mono hkp z4e (Nat.le_refl _)⟩, fun h => (by cases h)⟩
  exact ⟨⟨_, rfl⟩, false, rfl, hb, ⟨fun h => (by cases h), fun _ => ⟨[⟨tv, ts, k⟩], by simp [Lf.pair], hx3⟩⟩⟩
 | cons s ws ih =>
  intro v tv ts pre W hc ht hj hl hB hg
  obtain ⟨b, inner, rfl, hb, c0, c1, hi⟩ := hc
  simp only [List.length_cons] at hl
  refine zkq l b B n₀ s inner W tv ts _ hb hnB hB (by omega) c0 c1 ht ?_
  intro v2 w2 t2 o2 u2
  have hb2 : Below n₀ W w2 := (u2.mono (fun _ h => h) hnB).below (by omega)
  refine (ih inner v2 (ts ++ [s]) pre w2 (hi.below hb2) t2 (hJ _ _ _ hj u2) (by simp; omega) (Nat.le_trans hB u2.size) (by simpa using hg)).mono ?_
  rintro e w3 ⟨r, rfl, hb3, hg, hx⟩
  refine ⟨r, rfl, hb2.trans hb3, fun h => ?_, fun h => ?_⟩
  ·obtain ⟨hj3, ho3, ht3⟩ := hg h
   refine ⟨by simpa using hj3, fun u ys hu hle => ho3 u ys (o2 u ys hu hle) (by simp; omega), (u2.mono zxg hnB).trans ht3⟩
  simpa using hx h
def Tr (Ad : Nat -> Addr) (n₀ : Nat) (W : World) (d : Nat) (v : Value) (ls : List (List ByteArray × Nat)) : Prop :=
 ∀ R : Nat -> Value -> List (List ByteArray × Nat) -> Prop,
  (∀ d, R d .nilIface []) →
  (∀ d k, (1 <= k /\ k <= 18) -> R d (.iface 330 (.pointer (some (Ad k)))) [([], k)]) →
  (∀ d b s inner ls, b < n₀ -> W.cell? ⟨b, 0, none⟩ = some (.string s) -> W.cell? ⟨b, 1, none⟩ = some inner -> R d inner ls -> R (d + 1) (.iface 159 (.pointer (some ⟨b, 0, none⟩))) (ls.map fun p => (s :: p.1, p.2))) →
  (∀ d b g c (vs : List (Value × List (List ByteArray × Nat))), b < n₀ -> g < n₀ -> 0 < vs.length -> vs.length <= 1000 -> W.cell? ⟨b, 0, none⟩ = some (.slice (some ⟨g, 0, none⟩) vs.length c) →
   (∀ (j : Nat) x, vs[j]? = some x -> W.cell? ⟨g, j, none⟩ = some x.1) -> (∀ x ∈ vs, x.1.oneCell' = true) -> (∀ x ∈ vs, R d x.1 x.2) -> R d (.iface 235 (.pointer (some ⟨b, 0, none⟩))) (vs.map Prod.snd).flatten) →
  R d v ls
section
variable {Ad : Nat -> Addr} {n₀ : Nat} {W : World}
theorem Tr.empty (d : Nat) : Tr Ad n₀ W d .nilIface [] := fun _ h1 _ _ _ => h1 d
theorem Tr.leaf (d k : Nat) (hk : 1 <= k /\ k <= 18) : Tr Ad n₀ W d (.iface 330 (.pointer (some (Ad k)))) [([], k)] := fun _ _ h2 _ _ => h2 d k hk
theorem Tr.zlq (d b : Nat) (s : ByteArray) (inner : Value) (ls : List (List ByteArray × Nat)) (hb : b < n₀) (c0 : W.cell? ⟨b, 0, none⟩ = some (.string s)) (c1 : W.cell? ⟨b, 1, none⟩ = some inner) (hi : Tr Ad n₀ W d inner ls) :
  Tr Ad n₀ W (d + 1) (.iface 159 (.pointer (some ⟨b, 0, none⟩))) (ls.map fun p => (s :: p.1, p.2)) := fun R h1 h2 h3 h4 => h3 d b s inner ls hb c0 c1 (hi R h1 h2 h3 h4)
theorem Tr.many (d b g c : Nat) (vs : List (Value × List (List ByteArray × Nat))) (hb : b < n₀) (hg : g < n₀) (h0 : 0 < vs.length) (hn : vs.length <= 1000) (cb : W.cell? ⟨b, 0, none⟩ = some (.slice (some ⟨g, 0, none⟩) vs.length c))
  (cg : ∀ (j : Nat) x, vs[j]? = some x -> W.cell? ⟨g, j, none⟩ = some x.1) (one : ∀ x ∈ vs, x.1.oneCell' = true) (hi : ∀ x ∈ vs, Tr Ad n₀ W d x.1 x.2) :
  Tr Ad n₀ W d (.iface 235 (.pointer (some ⟨b, 0, none⟩))) (vs.map Prod.snd).flatten := fun R h1 h2 h3 h4 => h4 d b g c vs hb hg h0 hn cb cg one fun x hx => hi x hx R h1 h2 h3 h4
theorem Tr.ind {motive : ∀ (d : Nat) (v : Value) (ls : List (List ByteArray × Nat)), Tr Ad n₀ W d v ls -> Prop}
  (empty : ∀ d, motive d .nilIface [] (Tr.empty d))
  (leaf : ∀ d k (hk : 1 <= k /\ k <= 18), motive d (.iface 330 (.pointer (some (Ad k)))) [([], k)] (Tr.leaf d k hk))
  (zlq : ∀ d b s inner ls (hb : b < n₀) (c0 : W.cell? ⟨b, 0, none⟩ = some (.string s)) (c1 : W.cell? ⟨b, 1, none⟩ = some inner) (hi : Tr Ad n₀ W d inner ls) (_ih : motive d inner ls hi), motive (d + 1) (.iface 159 (.pointer (some ⟨b, 0, none⟩))) (ls.map fun p => (s :: p.1, p.2)) (Tr.zlq d b s inner ls hb c0 c1 hi))
  (many : ∀ d b g c (vs : List (Value × List (List ByteArray × Nat))) (hb : b < n₀) (hg : g < n₀) (h0 : 0 < vs.length) (hn : vs.length <= 1000) (cb : W.cell? ⟨b, 0, none⟩ = some (.slice (some ⟨g, 0, none⟩) vs.length c))
   (cg : ∀ (j : Nat) x, vs[j]? = some x -> W.cell? ⟨g, j, none⟩ = some x.1) (one : ∀ x ∈ vs, x.1.oneCell' = true) (hi : ∀ x ∈ vs, Tr Ad n₀ W d x.1 x.2) (_ih : ∀ x (hx : x ∈ vs), motive d x.1 x.2 (hi x hx)), motive d (.iface 235 (.pointer (some ⟨b, 0, none⟩))) (vs.map Prod.snd).flatten (Tr.many d b g c vs hb hg h0 hn cb cg one hi))
  {d : Nat} {v : Value} {ls : List (List ByteArray × Nat)} (h : Tr Ad n₀ W d v ls) : motive d v ls h := by
 obtain ⟨_, r⟩ := h (fun d v ls => ∃ h : Tr Ad n₀ W d v ls, motive d v ls h) (fun d => ⟨_, empty d⟩) (fun d k hk => ⟨_, leaf d k hk⟩)
  (fun d b s inner ls hb c0 c1 ⟨hi, ih⟩ => ⟨_, zlq d b s inner ls hb c0 c1 hi ih⟩)
  (fun d b g c vs hb hg h0 hn cb cg one hi => ⟨_, many d b g c vs hb hg h0 hn cb cg one (fun x hx => (hi x hx).1) fun x hx => (hi x hx).2⟩)
 exact r
end
theorem z2t (v : Value) (xT : TypeId) (w : World) : (Instr.typeAssert (.iface 235 v) xT 159 true).run Tryz.prog w = .ok (.tuple #[.pointer none, .bool false]) w := by kernel_rfl
theorem zvk (v : Value) (xT : TypeId) (w : World) : (Instr.typeAssert (.iface 235 v) xT 235 true).run Tryz.prog w = .ok (.tuple #[v, .bool true]) w := by kernel_rfl
theorem Tryz.zqi : (Tryz.prog.info? 31).map (fun i => (i.zero, i.size, i.bytes)) = some (some .nilIface, 1, 16) := by kernel_rfl
theorem zaf {w : World} {B : Nat} {e : TypeId} {z : Nat} {v : Value} {n : Nat} {xs : List Value} (h : w.ownsRow B e z v n xs) : ∃ ga gc, v = .slice ga n gc := by
 rcases h.2 with ⟨h1, h2⟩ | ⟨g, cap, cur, h1, _⟩
 ·exact ⟨none, 0, by rw [h2]; exact h1⟩
 exact ⟨_, _, h1⟩
theorem zdo {w : World} {B n c : Nat} {e : TypeId} {ga : Option Addr} {xs : List Value} (h : w.ownsRow B e 1 (.slice ga n c) n xs) (h0 : 0 < n) : ∃ g, ga = some ⟨g, 0, none⟩ /\ B <= g /\ g < w.heap.size := by
 rcases h.2 with ⟨h1, h2⟩ | ⟨g, cap, cur, h1, h2, h3, h4⟩
 ·omega
 simp only [Value.slice.injEq, true_and] at h1
 exact ⟨g, h1.1, h2, (Array.getElem?_eq_some_iff.1 h3).1⟩
theorem zcn {w : World} {B : Nat} {e : TypeId} {z : Nat} {v : Value} {n : Nat} {xs : List Value} (h : w.ownsRow B e z v n xs) {k : Nat} (hk : v.ownBlock = some k) : B <= k := (h.lt k hk).1
theorem ziq (w : World) {ops : Array Oper} {rest : List Oper} {o : Oper} {a : Act} {Q : Exit -> Act -> World -> Prop} (hgd : o.guard = none) (s x : Operand)
  (ho : o.op = .call { callee := .builtin .append, args := #[s, x], argTypes := #[154, 154] })
  (base : Nat) (v : Value) (xs : List Value) (hs : a.eval s = v) (hown : w.ownsRow base 31 1 v xs.length xs)
  (g c : Nat) (l : List Value) (hx : a.eval x = .slice (some ⟨g, 0, none⟩) l.length c) (hrow : ∀ (j : Nat) u, l[j]? = some u -> w.cell? ⟨g, j, none⟩ = some u) (h1 : ∀ u ∈ l, u.oneCell' = true) (hlen : xs.length + l.length <= 5000) (hbase : base <= w.heap.size)
  (h : ∀ ga gc (y : List Value) w', Hid (y = xs ++ l) -> Hid (w'.ownsRow base 31 1 (.slice ga y.length gc) y.length y) -> Hid (Below base w w') -> wpList Tryz.prog ops Q rest (a.put o.dst (.slice ga y.length gc)) w') :
  wpList Tryz.prog ops Q (o :: rest) a w := by
 obtain ⟨i0, hi, hz0, hz1, hz2⟩ := info_parts Tryz.zqi
 refine wpList_append_own_at w hgd s x 154 ho base 31 i0 .nilIface 1 16 Tryz.underlying154 hi hz0 hz1 hz2 rfl (by decide) v xs.length xs hs hown ⟨g, 0, none⟩ l.length c l hx (by simp) (fun j u hu => by rw [zbx]; exact hrow j u hu) h1 (by simp [maxLen]; omega) (by omega) hbase ?_
 intro v' w' hown' hgrow _ _
 have e : xs.length + l.length = (xs ++ l).length := by simp
 rw [e] at hown'
 obtain ⟨ga, gc, rfl⟩ := zaf hown'
 exact h ga gc (xs ++ l) w' rfl hown' ((Below.refl _ _).grown hgrow hbase (fun k hk => zcn hown hk))
set_option maxRecDepth 100000 in
theorem zpf (b g c : Nat) (l : List Value) (w : World) (hl : l.length <= 1000) (cb : w.cell? ⟨b, 0, none⟩ = some (.slice (some ⟨g, 0, none⟩) l.length c)) (cg : ∀ (j : Nat) u, l[j]? = some u -> w.cell? ⟨g, j, none⟩ = some u) (h1 : ∀ u ∈ l, u.oneCell' = true) :
  Calls Tryz.prog 160 #[.pointer (some ⟨b, 0, none⟩)] w fun e w' => ∃ ga gc, e = .returned (.slice ga l.length gc) /\ w'.ownsRow w.heap.size 31 1 (.slice ga l.length gc) l.length l /\ Below w.heap.size w w' := by
 have CG := hid cg
 have H1 := hid h1
 clear cg h1
 go_enter Tryz.func160, Tryz.ntmps160
 go_wp2_with (at_builtin; refine ziq _ rfl (.const (.slice none 0 0)) (.tmp 8) rfl w.heap.size _ [] rfl ?_ g c l rfl ?_ ?_ ?_ ?_ ?_; exact World.ownsRow_nil _ _ _ _; exact CG.out; exact H1.out; simp; omega; exact Nat.le_refl _; intro g1 c1 y1 w2 h2 o2 b2)
 have e : Hid (y1 = l) := by have := h2.out; show y1 = l; simpa using this
 go_ret
 rw [e.out] at o2
 exact ⟨g1, c1, by rw [e.out]; rfl, o2.out, b2.out⟩
theorem Turn.own {N B n : Nat} {w w' : World} {v : Value} {xs : List Value} (h : w.ownsRow B 31 1 v n xs) (ht : Turn (fun o => ¬ isErr o) N w w') : w'.ownsRow B 31 1 v n xs :=
 zas h fun g cur _ hg => ht.block g _ hg (.inr fun q => q ⟨cur, rfl⟩)
theorem zbe {α : Type} {l : List α} {k : Nat} {s : α} (h : l[k]? = some s) : l.take (k + 1) = l.take k ++ [s] := by
 obtain ⟨hk, rfl⟩ := List.getElem?_eq_some_iff.1 h
 rw [List.take_succ_eq_append_getElem hk]
theorem zal {α : Type} (l : List α) (k : Nat) (h : k < l.length) : ∃ s, l[k]? = some s := ⟨l[k], List.getElem?_eq_getElem h⟩
theorem zhi {α β : Type} {vs : List (α × List β)} {k : Nat} {x : α × List β} (h : vs.take (k + 1) = vs.take k ++ [x]) {γ : Type} (F : β -> γ) (zs : List γ) (hz : zs <+: x.2.map F) :
  ((vs.take k).map Prod.snd).flatten.map F ++ zs <+: (vs.map Prod.snd).flatten.map F := by
 have e : vs.take k ++ [x] ++ vs.drop (k + 1) = vs := by rw [<- h, List.take_append_drop]
 have e2 : (vs.map Prod.snd).flatten.map F = ((vs.take k).map Prod.snd).flatten.map F ++ (x.2.map F ++ ((vs.drop (k + 1)).map Prod.snd).flatten.map F) := by
  conv => lhs; rw [<- e]
  simp
 rw [e2]
 exact (List.prefix_append_right_inj _).2 (hz.trans (List.prefix_append _ _))
structure Amid (B n₀ : Nat) (J : List Lf -> World -> Prop) (pre : List Lf) (ts : List ByteArray) (tv : Value) (W : World) (ls : List (List ByteArray × Nat)) (A : World) : Prop where
 got : ∃ xs, xs.map Lf.pair = ls /\ J (pre ++ xs) A
 trail : Trail B A tv ts
 olds : Olds B ts.length W A
 turn : Turn (fun o => ¬ isErr o) n₀ W A
 size : B <= A.heap.size
set_option maxRecDepth 100000 in
theorem z0o (l b g c B n₀ : Nat) (full : List (List ByteArray × Nat)) (J Jx : List Lf -> World -> Prop) (hJ : ∀ s A A', J s A -> Turn isRow B A A' -> J s A') (vs : List (Value × List (List ByteArray × Nat))) (W : World) (tv : Value) (ts : List ByteArray) (pre : List Lf)
  (hnB : n₀ <= B) (hB : B <= W.heap.size) (h0 : 0 < vs.length) (hn : vs.length <= 1000) (cb : W.cell? ⟨b, 0, none⟩ = some (.slice (some ⟨g, 0, none⟩) vs.length c))
  (cg : ∀ (j : Nat) x, vs[j]? = some x -> W.cell? ⟨g, j, none⟩ = some x.1) (one : ∀ x ∈ vs, x.1.oneCell' = true) (ht : Trail B W tv ts) (hj : J pre W) (hG : (pre.map Lf.pair ++ (vs.map Prod.snd).flatten.map fun p => (ts ++ p.1, p.2)) <+: full)
  (hin : ∀ x ∈ vs, ∀ pre' W', Below n₀ W W' -> Trail B W' tv ts -> J pre' W' -> B <= W'.heap.size -> (pre'.map Lf.pair ++ x.2.map fun p => (ts ++ p.1, p.2)) <+: full -> Calls Tryz.prog 136 #[tv, x.1, .func (.yield l) #[] #[]] W' fun e w3 => ∃ r, e = .returned (.bool r) /\ Below n₀ W' w3 /\ Went B n₀ J Jx ts.length pre' (x.2.map fun p => (ts ++ p.1, p.2)) W' r w3) :
  Calls Tryz.prog 136 #[tv, .iface 235 (.pointer (some ⟨b, 0, none⟩)), .func (.yield l) #[] #[]] W fun e w3 => ∃ r, e = .returned (.bool r) /\ Below n₀ W w3 /\ Went B n₀ J Jx ts.length pre ((vs.map Prod.snd).flatten.map fun p => (ts ++ p.1, p.2)) W r w3 := by
 have n1 := z2t (.pointer (some ⟨b, 0, none⟩)) 31 W
 have n2 := zvk (.pointer (some ⟨b, 0, none⟩)) 31 W
 have HI := hid hin
 have HJ := hid hJ
 have HG := hid hG
 have U := hid (zpf b g c (vs.map Prod.fst) W (by simpa using hn) (by simpa using cb) (fun j u hu => by
  simp only [List.getElem?_map, Option.map_eq_some_iff] at hu
  obtain ⟨x, hx, rfl⟩ := hu
  exact cg j x hx) (fun u hu => by
  obtain ⟨x, hx, rfl⟩ := List.mem_map.1 hu
  exact one x hx))
 rw [List.length_map] at U
 have A0 := hid (show Amid B n₀ J pre ts tv W [] W from ⟨⟨[], rfl, by simpa using hj⟩, ht, fun _ _ h _ => h, Turn.refl _ _ _, hB⟩)
 have hni : (vs.length : Int) <= 1000 := by omega
 clear hin hJ cg one cb ht hj hG
 go_enter Tryz.func136, Tryz.ntmps136
 go_wp2_with fail
 refine U.out.mono ?_
 rintro e w1 ⟨ga, gc, rfl, ho, hbl⟩
 have O1 := hid ho
 have A1 : Hid (Amid B n₀ J pre ts tv W [] w1) := by
  obtain ⟨⟨xs, hx, hj⟩, h2, h3, h4, h5⟩ := A0.out
  exact ⟨⟨xs, hx, HJ.out _ _ _ hj (Turn.of_below hbl)⟩, h2.grown hbl, fun u ys hu _ => hu.grown hbl, Turn.of_below hbl, Nat.le_trans h5 hbl.size⟩
 clear ho hbl A0 U
 go_wp2_with fail
 go_loopw [11, 40] (fun _ i wr => ∃ k : Nat, k <= vs.length /\ i = .int .i64 k /\ wr.ownsRow W.heap.size 31 1 (.slice ga vs.length gc) vs.length (vs.map Prod.fst) /\ Amid B n₀ J pre ts tv W (((vs.take k).map Prod.snd).flatten.map fun p => (ts ++ p.1, p.2)) wr) (fun _ i _ => vs.length - (intOf i).toNat)
 case atStart => exact ⟨0, Nat.zero_le _, rfl, O1.out, by simpa using A1.out⟩
 case round =>
  obtain ⟨k, hk, rfl, ho, ha⟩ := hrel
  clear O1 A1
  have HO := hid ho
  have HA := hid ha
  clear ho ha
  by_cases hlt : k < vs.length
  ·obtain ⟨x, hx⟩ := zal vs k hlt
   obtain ⟨h, rfl, hh⟩ := zdo HO.out h0
   have c1 : wr.cell? ⟨h, k, none⟩ = some x.1 := by rw [HO.out.cellAt k (by omega)]; simp [hx]
   have HT := hid (zbe hx)
   have HX := hid (List.mem_of_getElem? hx)
   clear hx
   go_wp2_with fail
   obtain ⟨xs, hxs, hj⟩ := HA.out.got
   refine (HI.out x HX.out (pre ++ xs) wr (HA.out.turn.below (by omega)) HA.out.trail hj HA.out.size (by rw [List.map_append, hxs, List.append_assoc]; exact List.IsPrefix.trans ((List.prefix_append_right_inj _).2 (zhi HT.out _ _ (List.prefix_refl _))) HG.out)).mono ?_
   rintro e w3 ⟨r, rfl, hb3, hg, hx3⟩
   have G3 := hid (And.intro hb3 (And.intro hg hx3))
   have HXS := hid hxs
   clear hb3 hg hx3 hxs hj c1
   cases r with
   | true =>
    go_wp2_with fail
    go_roundw
    case rel =>
     obtain ⟨hb3, hg, -⟩ := G3.out
     obtain ⟨⟨ys, hys, hj3⟩, o3, t3⟩ := hg (by simp)
     refine ⟨k + 1, by omega, by go_num, Turn.own HO.out t3, ⟨xs ++ ys, ?_, by rw [<- List.append_assoc]; exact hj3⟩, o3 _ _ HA.out.trail (Nat.le_refl _), fun u ys hu hle => o3 u ys (HA.out.olds u ys hu hle) hle, HA.out.turn.trans t3, Nat.le_trans HA.out.size t3.size⟩
     rw [HT.out]
     simp [HXS.out, hys]
    case measure => simp [intOf]; omega
   | false =>
    go_wp2_with fail
    go_ret
    obtain ⟨hb3, -, hx⟩ := G3.out
    obtain ⟨ys, hys, hx3⟩ := hx (by simp)
    refine ⟨false, rfl, (HA.out.turn.below (by omega)).trans hb3, ⟨fun h => (by cases h), fun _ => ⟨xs ++ ys, ?_, by rw [<- List.append_assoc]; exact hx3⟩⟩⟩
    rw [List.map_append, HXS.out]
    exact zhi HT.out _ _ hys
  have e : Hid (vs.take k = vs) := List.take_of_length_le (by omega)
  go_wp2_with fail
  go_ret
  have h := HA.out
  rw [e.out] at h
  exact ⟨true, rfl, h.turn.below (by omega), ⟨fun _ => ⟨h.got, h.olds, h.turn⟩, fun h => (by cases h)⟩⟩
theorem walk_nil (l : Nat) (tv : Value) (W : World) :
  Calls Tryz.prog 136 #[tv, .nilIface, .func (.yield l) #[] #[]] W fun e w3 => e = .returned (.bool true) /\ w3 = W := by
 go_enter Tryz.func136, Tryz.ntmps136
 go_wp2
 go_ret
 exact ⟨rfl, rfl⟩
theorem z2r (Ad : Nat -> Addr) (l B n₀ : Nat) (full : List (List ByteArray × Nat)) (J Jx : List Lf -> World -> Prop) (hJ : ∀ s A A', J s A -> Turn isRow B A A' -> J s A') (hY : Yields Ad l B n₀ full J Jx) (hnB : n₀ <= B) (W : World) {d : Nat} {v : Value} {ls : List (List ByteArray × Nat)} (h : Tr Ad n₀ W d v ls) :
  ∀ (tv : Value) (ts : List ByteArray) (pre : List Lf) (W' : World), Below n₀ W W' -> Trail B W' tv ts -> J pre W' -> ts.length + d <= 1000 -> B <= W'.heap.size -> (pre.map Lf.pair ++ ls.map fun p => (ts ++ p.1, p.2)) <+: full →
   Calls Tryz.prog 136 #[tv, v, .func (.yield l) #[] #[]] W' fun e w3 => ∃ r, e = .returned (.bool r) /\ Below n₀ W' w3 /\ Went B n₀ J Jx ts.length pre (ls.map fun p => (ts ++ p.1, p.2)) W' r w3 := by
 induction h using Tr.ind with
 | empty d =>
  intro tv ts pre W' hb ht hj hl hB hG
  refine (walk_nil l tv W').mono ?_
  rintro e w3 ⟨rfl, rfl⟩
  exact ⟨true, rfl, Below.refl _ _, ⟨fun _ => ⟨⟨[], rfl, by simpa using hj⟩, fun _ _ h _ => h, Turn.refl _ _ _⟩, fun h => (by cases h)⟩⟩
 | leaf d k hk =>
  intro tv ts pre W' hb ht hj hl hB hG
  exact zui Ad l B n₀ full J Jx hJ hY hnB k hk [] _ tv ts pre W' rfl ht hj (by simp; omega) hB hG
 | zlq d b s inner ls hbn c0 c1 hi ih =>
  intro tv ts pre W' hb ht hj hl hB hG
  rw [show (ls.map fun p => (s :: p.1, p.2)).map (fun p => (ts ++ p.1, p.2)) = ls.map fun p => (ts ++ [s] ++ p.1, p.2) by simp] at hG ⊢
  refine zkq l b B n₀ s inner W' tv ts _ hbn hnB hB (by omega) ((hb.cell (p := ⟨b, 0, none⟩) hbn).trans c0) ((hb.cell (p := ⟨b, 1, none⟩) hbn).trans c1) ht ?_
  intro v2 w2 t2 o2 u2
  have hb2 : Below n₀ W' w2 := (u2.mono (fun _ h => h) hnB).below (by omega)
  refine (ih v2 (ts ++ [s]) pre w2 (hb.trans hb2) t2 (hJ _ _ _ hj u2) (by simp; omega) (Nat.le_trans hB u2.size) hG).mono ?_
  rintro e w3 ⟨r, rfl, hb3, hg, hx⟩
  refine ⟨r, rfl, hb2.trans hb3, fun h => ?_, fun h => ?_⟩
  ·obtain ⟨hj3, ho3, ht3⟩ := hg h
   refine ⟨hj3, fun u ys hu hle => ho3 u ys (o2 u ys hu hle) (by simp; omega), (u2.mono zxg hnB).trans ht3⟩
  exact hx h
 | many d b g c vs hbn hgn h0 hn cb cg one hi ih =>
  intro tv ts pre W' hb ht hj hl hB hG
  refine z0o l b g c B n₀ full J Jx hJ vs W' tv ts pre hnB hB h0 hn ((hb.cell (p := ⟨b, 0, none⟩) hbn).trans cb) (fun j x hx => (hb.cell (p := ⟨g, j, none⟩) hgn).trans (cg j x hx)) one ht hj hG ?_
  intro x hx pre' W2 hb2 ht2 hj2 hB2 hg2
  exact ih x hx tv ts pre' W2 (hb.trans hb2) ht2 hj2 hl hB2 hg2
theorem Tr.move {Ad : Nat -> Addr} {n₀ n₁ : Nat} {W W' : World} {d : Nat} {v : Value} {ls : List (List ByteArray × Nat)} (h : Tr Ad n₀ W d v ls) (hb : Below n₀ W W') (hn : n₀ <= n₁) : Tr Ad n₁ W' d v ls := by
 induction h using Tr.ind with
 | empty d => exact .empty d
 | leaf d k hk => exact .leaf d k hk
 | zlq d b s inner ls hbn c0 c1 hi ih => exact .zlq d b s inner ls (by omega) ((hb.cell (p := ⟨b, 0, none⟩) hbn).trans c0) ((hb.cell (p := ⟨b, 1, none⟩) hbn).trans c1) ih
 | many d b g c vs hbn hgn h0 hn' cb cg one hi ih => exact .many d b g c vs (by omega) (by omega) h0 hn' ((hb.cell (p := ⟨b, 0, none⟩) hbn).trans cb) (fun j x hx => (hb.cell (p := ⟨g, j, none⟩) hgn).trans (cg j x hx)) one ih
theorem Tr.later {Ad : Nat -> Addr} {W W' : World} {d : Nat} {v : Value} {ls : List (List ByteArray × Nat)} (h : Tr Ad W.heap.size W d v ls) (hb : Below W.heap.size W W') : Tr Ad W'.heap.size W' d v ls := h.move hb hb.size
end Go.Proofs.YthadfdbkkmmgoaaGreatDoor
namespace Go.Proofs.YthadfdbkkmmgoaaGreatDoor
open Go.RowKit Go.Extern.Stop Go.Stop Go.Extern
theorem zir (v : Value) (w : World) : (Extern.ReflectliteType.typeOf #[.iface 330 v]).run Tryz.prog w = .ok (.iface 164 (.agg #[.pointer (some ⟨21, 330, none⟩)])) w := by kernel_rfl
def z5k : Array Value -> Sem Value := Extern.ReflectliteType.method fun t => do Extern.Rtype.noPackHeld "Comparable" t; pure (.bool (← typeInfo t).comparable)
theorem zlh (w : World) : (z5k #[.agg #[.pointer (some ⟨21, 330, none⟩)]]).run Tryz.prog w = .ok (.bool true) w := by kernel_rfl
theorem zqw (w : World) : (callFunc 235 #[.agg #[.pointer (some ⟨21, 330, none⟩)]]).run Tryz.prog w = .ok (.value (.bool true)) w := by
 rw [run_callFunc_extern (e := z5k) Tryz.func235 (by kernel_rfl) (by kernel_rfl) (by kernel_rfl) (by kernel_rfl), zlh]
 rfl
theorem zov : (Tryz.prog.info? 330).map (·.comparable) = some true := by kernel_rfl
theorem zlv : (Tryz.prog.info? 354).map (·.size) = some 1 := by kernel_rfl
theorem zlz (v : Value) (xT : TypeId) (w : World) : (Instr.typeAssert (.iface 330 v) xT 166 true).run Tryz.prog w = .ok (.tuple #[.nilIface, .bool false]) w := run_typeAssert_lacksB Tryz.underlying166 (by kernel_rfl) (by kernel_rfl) v xT w
theorem zev (v : Value) (xT : TypeId) (w : World) : (Instr.typeAssert (.iface 330 v) xT 169 true).run Tryz.prog w = .ok (.tuple #[.nilIface, .bool false]) w := run_typeAssert_lacksB Tryz.underlying169 (by kernel_rfl) (by kernel_rfl) v xT w
theorem zei (v : Value) (xT : TypeId) (w : World) : (Instr.typeAssert (.iface 330 v) xT 170 true).run Tryz.prog w = .ok (.tuple #[.nilIface, .bool false]) w := run_typeAssert_lacksB Tryz.underlying170 (by kernel_rfl) (by kernel_rfl) v xT w
theorem zjs (v : Value) (w : World) : (Go.method 465 164 v "Comparable").run Tryz.prog w = .ok (235, v) w := by kernel_rfl
theorem ztd : ∀ j, Tryz.prog.info? 354 = some j -> j.size ≠ 0 := by
 intro j hj
 have := zlv
 rw [hj] at this
 have e : j.size = 1 := by simpa using this
 omega
def SenK (w : World) (a : Addr) : Prop := ∃ ca ta, w.heap[a.block]? = some (.cells ca ta (0, 0))
theorem SenK.below {w w' : World} {a : Addr} {B : Nat} (h : SenK w a) (hb : Below B w w') (hB : a.block < B) : SenK w' a := by
 obtain ⟨ca, ta, h⟩ := h
 exact ⟨ca, ta, (hb.block _ hB).trans h⟩
theorem SenK.lt {w : World} {a : Addr} (h : SenK w a) : a.block < w.heap.size := by
 obtain ⟨ca, ta, h⟩ := h
 exact (Array.getElem?_eq_some_iff.1 h).1
set_option maxRecDepth 100000 in
theorem z8h (a : Addr) (w : World) :
  Calls Tryz.prog 11 #[.iface 330 (.pointer (some a)), .iface 330 (.pointer (some a))] w fun e w' => e = .returned (.bool true) /\ w = w' := by
 obtain ⟨i, hi, hcmp⟩ := Option.map_eq_some_iff.1 zov
 obtain ⟨j, hj, hjs⟩ := Option.map_eq_some_iff.1 zlv
 have h8 := @run_callFunc_extern Tryz.prog 46 _ Extern.ReflectliteType.typeOf Tryz.func46 (by kernel_rfl) (by kernel_rfl) (by kernel_rfl) (by kernel_rfl)
 have h32 := zqw
 have tT := zir
 have mR := zjs
 have nE := zlz
 have uE := zev
 have vE := zei
 have heq := run_eql_iface_ptr_same (P := Tryz.prog) w a Tryz.underlying31 Tryz.underlying330 hi hcmp hj
 go_enter Tryz.func11, Tryz.ntmps11
 go_wp2
 refine wp_loop_rounds 1 ?_
 rw [rounds_succ]
 go_wp2
 go_ret
 exact ⟨rfl, rfl⟩
set_option maxRecDepth 100000 in
theorem z1g (a b : Addr) (w : World) (hne : a ≠ b) (ha : SenK w a) (hb : SenK w b) :
  Calls Tryz.prog 11 #[.iface 330 (.pointer (some a)), .iface 330 (.pointer (some b))] w fun e w' => e = .returned (.bool false) /\ w = w' := by
 obtain ⟨ca, ta, ha⟩ := ha
 obtain ⟨cb, tb, hb⟩ := hb
 obtain ⟨i, hi, hcmp⟩ := Option.map_eq_some_iff.1 zov
 obtain ⟨j, hj, hjs⟩ := Option.map_eq_some_iff.1 zlv
 have h8 := @run_callFunc_extern Tryz.prog 46 _ Extern.ReflectliteType.typeOf Tryz.func46 (by kernel_rfl) (by kernel_rfl) (by kernel_rfl) (by kernel_rfl)
 have h32 := zqw
 have tT := zir
 have mR := zjs
 have nE := zlz
 have uE := zev
 have vE := zei
 have heq := run_eql_iface_ptr_other (P := Tryz.prog) w Tryz.underlying31 Tryz.underlying330 hi hcmp hj (ztd j hj) hne ha hb
 clear ha hb hne
 go_enter Tryz.func11, Tryz.ntmps11
 go_wp2
 refine wp_loop_rounds 1 ?_
 rw [rounds_succ]
 go_wp2
 go_ret
 exact ⟨rfl, rfl⟩
theorem z9e (p : Addr) (w : World) :
  CallsD Tryz.prog 137 #[.pointer (some p)] .returning w fun e u' w' => e = .returned (.tuple #[]) /\ u' = .returning /\ w' = w := by
 refine callsD_of_wpS Tryz.func137 rfl fun c₀ cs hu => ?_
 apply wpS_seq
 apply wpS_region
 simp [wpOpsS, go_sem, recoverD, hu, Tryz.ntmps137, Exit.thenS]
 refine wpS_cond (t := false) (by simp [Act.eval, Array.replicate]) ?_
 simp only [Bool.false_eq_true, if_false]
 refine wpS_of_wp (wp_skip ?_)
 cases c₀
 simp_all [bodyPostS, results, Tryz.results137]
set_option maxRecDepth 100000 in
theorem zyc (a b : Addr) (r : Bool) (w : World) (hIs : Calls Tryz.prog 11 #[.iface 330 (.pointer (some a)), .iface 330 (.pointer (some b))] (w.alloc (.cells #[.bool false] 4)) fun e w' => e = .returned (.bool r) /\ w.alloc (.cells #[.bool false] 4) = w') :
  Calls Tryz.prog 91 #[.iface 330 (.pointer (some a)), .iface 330 (.pointer (some b))] w fun e w' => e = .returned (.bool r) /\ w' = w.alloc (.cells #[.bool r] 4) := by
 have hmf : ∀ (fn : Fn) (first cap : Array Value) (w : World), (Instr.makeFunc fn first cap).run Tryz.prog w = .ok (.func fn first cap) w := fun _ _ _ _ => rfl
 go_enter_defers Tryz.func91, Tryz.ntmps91
 go_wp2_with (go_at_call 11; refine hIs.mono ?_; rintro e w' ⟨rfl, rfl⟩)
 refine leaves_cons (f := 137) (args := #[.pointer (some ⟨w.heap.size, 0, none⟩)]) (by simp) (by simp [go_sem]) ?_
 refine (z9e ⟨w.heap.size, 0, none⟩ _).mono ?_
 rintro e u' w'' ⟨rfl, rfl, rfl⟩
 simp [Leaves, settle, results, Tryz.results91, go_sem]
theorem yag (a b : Addr) (w : World) (ha : SenK w a) (hb : SenK w b) :
  Calls Tryz.prog 91 #[.iface 330 (.pointer (some a)), .iface 330 (.pointer (some b))] w fun e w' => e = .returned (.bool (decide (a = b))) /\ w' = w.alloc (.cells #[.bool (decide (a = b))] 4) := by
 have hbl : Below w.heap.size w (w.alloc (.cells #[.bool false] 4)) := (Below.refl _ _).alloc (Nat.le_refl _) _
 by_cases h : a = b
 ·subst h
  have := zyc a a true w (z8h a _)
  simpa using this
 have := zyc a b false w (z1g a b _ h (ha.below hbl ha.lt) (hb.below hbl hb.lt))
 simpa [h] using this
theorem zpn (t : TypeId) (p : Value) (w : World) :
  Calls Tryz.prog 90 #[.iface t p] w fun e w' => e = .returned (.func (.func 135) #[] #[.pointer (some ⟨w.heap.size, 0, none⟩)]) /\ w' = w.alloc (.cells #[.iface t p] 31) := by
 have hmf : ∀ (fn : Fn) (first cap : Array Value) (w : World), (Instr.makeFunc fn first cap).run Tryz.prog w = .ok (.func fn first cap) w := fun _ _ _ _ => rfl
 go_enter Tryz.func90, Tryz.ntmps90
 go_wp2
 go_ret
 exact ⟨rfl, rfl⟩
theorem zwi (w : World) :
  Calls Tryz.prog 90 #[.nilIface] w fun e w' => e = .returned (.func (.func 135) #[] #[.pointer (some ⟨w.heap.size, 0, none⟩)]) /\ w' = w.alloc (.cells #[.nilIface] 31) := by
 have hmf : ∀ (fn : Fn) (first cap : Array Value) (w : World), (Instr.makeFunc fn first cap).run Tryz.prog w = .ok (.func fn first cap) w := fun _ _ _ _ => rfl
 go_enter Tryz.func90, Tryz.ntmps90
 go_wp2
 go_ret
 exact ⟨rfl, rfl⟩
theorem zxp (v : Value) (hv : v = .nilIface \/ ∃ t p, v = .iface t p) (w : World) :
  Calls Tryz.prog 90 #[v] w fun e w' => e = .returned (.func (.func 135) #[] #[.pointer (some ⟨w.heap.size, 0, none⟩)]) /\ w' = w.alloc (.cells #[v] 31) := by
 rcases hv with rfl | ⟨t, p, rfl⟩
 ·exact zwi w
 exact zpn t p w
theorem Tr.isIface {Ad : Nat -> Addr} {n₀ : Nat} {W : World} {d : Nat} {v : Value} {ls : List (List ByteArray × Nat)} (h : Tr Ad n₀ W d v ls) : v = .nilIface \/ ∃ t p, v = .iface t p := by
 induction h using Tr.ind with
 | empty => exact .inl rfl
 | leaf => exact .inr ⟨_, _, rfl⟩
 | zlq => exact .inr ⟨_, _, rfl⟩
 | many => exact .inr ⟨_, _, rfl⟩
set_option maxRecDepth 100000 in
theorem ztx (bx : Nat) (v : Value) (R : World -> Prop) (l : Nat) (W : World) (hc : W.cell? ⟨bx, 0, none⟩ = some v)
  (hw : Calls Tryz.prog 136 #[.slice none 0 0, v, .func (.yield l) #[] #[]] W fun e w3 => ∃ r, e = .returned (.bool r) /\ R w3) :
  Calls Tryz.prog 135 #[.func (.yield l) #[] #[], .pointer (some ⟨bx, 0, none⟩)] W fun e w3 => e = .returned (.tuple #[]) /\ R w3 := by
 have HW := hid hw
 clear hw
 go_enter Tryz.func135, Tryz.ntmps135
 go_wp2_with fail
 refine HW.out.mono ?_
 rintro e w3 ⟨r, rfl, hr⟩
 have HR := hid hr
 clear hr
 go_wp2_with fail
 go_end0
 exact ⟨rfl, HR.out⟩
theorem zyp (Ad : Nat -> Addr) (n₀ bx d : Nat) (w0 w : World) (v : Value) (ls : List (List ByteArray × Nat)) (m n : Nat) (hT : Tr Ad n₀ w0 d v ls) (hd : d <= 1000) (h0 : Below n₀ w0 w) (hn : n₀ <= w.heap.size) (hbx : bx < w.heap.size) (hc : w.cell? ⟨bx, 0, none⟩ = some v) :
  ∀ (l : Nat) (J Jx : List Lf -> World -> Prop) (W : World), Below w.heap.size w W -> (∀ s A B, J s A -> Turn isRow w.heap.size A B -> J s B) -> (∀ s A B, Jx s A -> Turn isRow w.heap.size A B -> Jx s B) →
   (∀ pre x W1, J pre W1 -> Handed w.heap.size ls pre x W1 -> YieldAt Fence.wide m Tryz.prog l (encs Ad x) W1 fun e W' => (e = .returned (.bool true) /\ J (pre ++ [x]) W' /\ Kp n₀ W1 W') \/ (e = .returned (.bool false) /\ Jx (pre ++ [x]) W' /\ Below n₀ W1 W')) -> J [] W →
   CallsIn Fence.wide n Tryz.prog 135 (#[.func (.yield l) #[] #[]] ++ #[.pointer (some ⟨bx, 0, none⟩)]) W fun e W' => (∃ v, e = .returned v) /\ ((∃ xs, xs.map Lf.pair = ls /\ J xs W') \/ (∃ pre, pre.map Lf.pair <+: ls /\ Jx pre W')) := by
 intro l J Jx W hW hJ hJx hY hj
 refine callsIn_wide.2 ?_
 have hw := z2r Ad l w.heap.size n₀ ls J Jx hJ (fun n pre x W hj hx => ycl n (hY pre x W hj hx)) hn w0 hT (.slice none 0 0) [] [] W (h0.trans (hW.mono hn)) (World.ownsRow_nil _ _ _ _) hj (by simpa using hd) hW.size (by simp)
 simp only [List.nil_append, List.map_id'] at hw
 refine (ztx bx v (fun w3 => (∃ xs, xs.map Lf.pair = ls /\ J xs w3) \/ (∃ pre, pre.map Lf.pair <+: ls /\ Jx pre w3)) l W ((hW.cell (p := ⟨bx, 0, none⟩) hbx).trans hc) (hw.mono ?_)).mono ?_
 ·rintro e w3 ⟨r, rfl, -, hg, hx⟩
  cases r with
  | true =>
   obtain ⟨⟨xs, hxs, hj3⟩, -, -⟩ := hg rfl
   exact ⟨true, rfl, .inl ⟨xs, by simpa using hxs, by simpa using hj3⟩⟩
  | false =>
   obtain ⟨xs, hxs, hj3⟩ := hx rfl
   exact ⟨false, rfl, .inr ⟨xs, by simpa using hxs, by simpa using hj3⟩⟩
 rintro e w3 ⟨rfl, hr⟩
 exact ⟨⟨_, rfl⟩, hr⟩
end Go.Proofs.YthadfdbkkmmgoaaGreatDoor
namespace Go.Proofs.YthadfdbkkmmgoaaGreatDoor
open Go.RowKit Go.Shelf
def gv (k : Nat) : Nat := if k = 2 then 3 else if k = 3 then 7 else if k = 4 then 4 else if k = 5 then 8 else if k = 6 then 1 else if k = 7 then 9 else if k = 8 then 10 else if k = 9 then 6 else if k = 10 then 5 else if k = 11 then 11 else if k = 12 then 12 else if k = 13 then 13 else if k = 14 then 14 else if k = 15 then 15 else if k = 16 then 16 else if k = 17 then 2 else k - 1
structure Env (w : World) (Ad : Nat -> Addr) : Prop where
 cell : ∀ k, 1 <= k -> k <= 18 -> w.cell? ⟨gv k, 0, none⟩ = some (.iface 330 (.pointer (some (Ad k))))
 sen : ∀ k, 1 <= k -> k <= 18 -> SenK w (Ad k)
 inj : ∀ i j, 1 <= i -> i <= 18 -> 1 <= j -> j <= 18 -> Ad i = Ad j -> i = j
theorem Env.below {w w' : World} {Ad : Nat -> Addr} {B : Nat} (h : Env w Ad) (hb : Below B w w') (hB : w.heap.size <= B) : Env w' Ad :=
 ⟨fun k h1 h2 => (hb.cell (p := ⟨gv k, 0, none⟩) (Nat.lt_of_lt_of_le (World.block_lt_of_cell? w _ (h.cell k h1 h2)) hB)).trans (h.cell k h1 h2), fun k h1 h2 => (h.sen k h1 h2).below hb (Nat.lt_of_lt_of_le (h.sen k h1 h2).lt hB), h.inj⟩
theorem Env.later {w w' : World} {Ad : Nat -> Addr} (h : Env w Ad) (hb : Below w.heap.size w w') : Env w' Ad := h.below hb (Nat.le_refl _)
def z6q (Ad : Nat -> Addr) : Array Value := ((List.range 18).map fun i => Value.iface 330 (.pointer (some (Ad (i + 1))))).toArray
theorem ycm (Ad : Nat -> Addr) : (#[.iface 330 (.pointer (some (Ad 1))), .iface 330 (.pointer (some (Ad 2))), .iface 330 (.pointer (some (Ad 3))), .iface 330 (.pointer (some (Ad 4))), .iface 330 (.pointer (some (Ad 5))), .iface 330 (.pointer (some (Ad 6))), .iface 330 (.pointer (some (Ad 7))), .iface 330 (.pointer (some (Ad 8))), .iface 330 (.pointer (some (Ad 9))), .iface 330 (.pointer (some (Ad 10))), .iface 330 (.pointer (some (Ad 11))), .iface 330 (.pointer (some (Ad 12))), .iface 330 (.pointer (some (Ad 13))), .iface 330 (.pointer (some (Ad 14))), .iface 330 (.pointer (some (Ad 15))), .iface 330 (.pointer (some (Ad 16))), .iface 330 (.pointer (some (Ad 17))), .iface 330 (.pointer (some (Ad 18)))] : Array Value) = z6q Ad := rfl
theorem ybc (Ad : Nat -> Addr) (w : World) (t : TypeId) (k : Nat) (hk : k < 18) : (w.alloc (.cells #[.iface 330 (.pointer (some (Ad 1))), .iface 330 (.pointer (some (Ad 2))), .iface 330 (.pointer (some (Ad 3))), .iface 330 (.pointer (some (Ad 4))), .iface 330 (.pointer (some (Ad 5))), .iface 330 (.pointer (some (Ad 6))), .iface 330 (.pointer (some (Ad 7))), .iface 330 (.pointer (some (Ad 8))), .iface 330 (.pointer (some (Ad 9))), .iface 330 (.pointer (some (Ad 10))), .iface 330 (.pointer (some (Ad 11))), .iface 330 (.pointer (some (Ad 12))), .iface 330 (.pointer (some (Ad 13))), .iface 330 (.pointer (some (Ad 14))), .iface 330 (.pointer (some (Ad 15))), .iface 330 (.pointer (some (Ad 16))), .iface 330 (.pointer (some (Ad 17))), .iface 330 (.pointer (some (Ad 18)))] t)).cell? ⟨w.heap.size, k, none⟩ = some (.iface 330 (.pointer (some (Ad (k + 1))))) := by
 rw [ycm, cell_of_row _ _ k (z6q Ad) t (0, 0) (heap_alloc_new w _)]
 simp [z6q, hk]
set_option maxRecDepth 100000 in
theorem z6k (w : World) (Ad : Nat -> Addr) (h : Env w Ad) (k : Nat) (hk : k < 18) :
  Calls Tryz.prog 89 #[.int .i64 ((k : Int) + 1)] w fun e w' => e = .returned (.iface 330 (.pointer (some (Ad (k + 1))))) /\ Below w.heap.size w w' := by
 have c1 : w.cell? ⟨0, 0, none⟩ = some (.iface 330 (.pointer (some (Ad 1)))) := h.cell 1 (by decide) (by decide)
 have c2 : w.cell? ⟨3, 0, none⟩ = some (.iface 330 (.pointer (some (Ad 2)))) := h.cell 2 (by decide) (by decide)
 have c3 : w.cell? ⟨7, 0, none⟩ = some (.iface 330 (.pointer (some (Ad 3)))) := h.cell 3 (by decide) (by decide)
 have c4 : w.cell? ⟨4, 0, none⟩ = some (.iface 330 (.pointer (some (Ad 4)))) := h.cell 4 (by decide) (by decide)
 have c5 : w.cell? ⟨8, 0, none⟩ = some (.iface 330 (.pointer (some (Ad 5)))) := h.cell 5 (by decide) (by decide)
 have c6 : w.cell? ⟨1, 0, none⟩ = some (.iface 330 (.pointer (some (Ad 6)))) := h.cell 6 (by decide) (by decide)
 have c7 : w.cell? ⟨9, 0, none⟩ = some (.iface 330 (.pointer (some (Ad 7)))) := h.cell 7 (by decide) (by decide)
 have c8 : w.cell? ⟨10, 0, none⟩ = some (.iface 330 (.pointer (some (Ad 8)))) := h.cell 8 (by decide) (by decide)
 have c9 : w.cell? ⟨6, 0, none⟩ = some (.iface 330 (.pointer (some (Ad 9)))) := h.cell 9 (by decide) (by decide)
 have c10 : w.cell? ⟨5, 0, none⟩ = some (.iface 330 (.pointer (some (Ad 10)))) := h.cell 10 (by decide) (by decide)
 have c11 : w.cell? ⟨11, 0, none⟩ = some (.iface 330 (.pointer (some (Ad 11)))) := h.cell 11 (by decide) (by decide)
 have c12 : w.cell? ⟨12, 0, none⟩ = some (.iface 330 (.pointer (some (Ad 12)))) := h.cell 12 (by decide) (by decide)
 have c13 : w.cell? ⟨13, 0, none⟩ = some (.iface 330 (.pointer (some (Ad 13)))) := h.cell 13 (by decide) (by decide)
 have c14 : w.cell? ⟨14, 0, none⟩ = some (.iface 330 (.pointer (some (Ad 14)))) := h.cell 14 (by decide) (by decide)
 have c15 : w.cell? ⟨15, 0, none⟩ = some (.iface 330 (.pointer (some (Ad 15)))) := h.cell 15 (by decide) (by decide)
 have c16 : w.cell? ⟨16, 0, none⟩ = some (.iface 330 (.pointer (some (Ad 16)))) := h.cell 16 (by decide) (by decide)
 have c17 : w.cell? ⟨2, 0, none⟩ = some (.iface 330 (.pointer (some (Ad 17)))) := h.cell 17 (by decide) (by decide)
 have c18 : w.cell? ⟨17, 0, none⟩ = some (.iface 330 (.pointer (some (Ad 18)))) := h.cell 18 (by decide) (by decide)
 have hki : (k : Int) < 18 := by omega
 have hc := ybc Ad w 247 k hk
 clear h hk
 go_enter Tryz.func89, Tryz.ntmps89
 go_wp2
 go_ret
 exact ⟨rfl, (Below.refl _ _).alloc (Nat.le_refl _) _⟩
end Go.Proofs.YthadfdbkkmmgoaaGreatDoor
namespace Go.Proofs.YthadfdbkkmmgoaaGreatDoor
open Go.RowKit Go.Shelf Go.Extern.Stop Go.Stop Go.Extern
def Chn (Ad : Nat -> Addr) (n₀ : Nat) (W : World) (d : Nat) (v : Value) (p : List ByteArray × Nat) : Prop := Ch Ad n₀ W p.2 p.1 v /\ 1 <= p.2 /\ p.2 <= 18 /\ p.1.length <= d
theorem Ch.shape {Ad : Nat -> Addr} {n₀ k : Nat} {W : World} : ∀ {ws : List ByteArray} {v : Value}, Ch Ad n₀ W k ws v -> ∃ t q, v = .iface t q /\ (t = 330 \/ t = 159)
 | [], _, h => ⟨_, _, h, .inl rfl⟩
 | _ :: _, _, ⟨_, _, hv, _⟩ => ⟨_, _, hv, .inr rfl⟩
theorem Ch.tr {Ad : Nat -> Addr} {n₀ k : Nat} {W : World} (hk : 1 <= k /\ k <= 18) : ∀ {ws : List ByteArray} {v : Value} {d : Nat}, ws.length <= d -> Ch Ad n₀ W k ws v -> Tr Ad n₀ W d v [(ws, k)]
 | [], _, d, _, h => by subst h; exact .leaf d k hk
 | s :: ws, _, d, hd, ⟨b, inner, hv, hb, c0, c1, hi⟩ => by
  subst hv
  obtain ⟨e, rfl⟩ : ∃ e, d = e + 1 := ⟨d - 1, by simp at hd; omega⟩
  exact .zlq e b s inner [(ws, k)] hb c0 c1 (Ch.tr hk (by simp at hd; omega) hi)
theorem Chn.tr {Ad : Nat -> Addr} {n₀ d : Nat} {W : World} {v : Value} {p : List ByteArray × Nat} (h : Chn Ad n₀ W d v p) : Tr Ad n₀ W d v [p] := Ch.tr ⟨h.2.1, h.2.2.1⟩ h.2.2.2 h.1
theorem Chn.move {Ad : Nat -> Addr} {n₀ n₁ d : Nat} {W W' : World} {v : Value} {p : List ByteArray × Nat} (h : Chn Ad n₀ W d v p) (hb : Below n₀ W W') (hn : n₀ <= n₁) : Chn Ad n₁ W' d v p := ⟨(h.1.below hb).wider hn, h.2⟩
theorem z3z (v : Value) (xT : TypeId) (w : World) : (Instr.typeAssert (.iface 159 v) xT 166 true).run Tryz.prog w = .ok (.tuple #[.nilIface, .bool false]) w := run_typeAssert_lacksB Tryz.underlying166 (by kernel_rfl) (by kernel_rfl) v xT w
theorem zli (v : Value) (xT : TypeId) (w : World) : (Instr.typeAssert (.iface 159 v) xT 169 true).run Tryz.prog w = .ok (.tuple #[.iface 159 v, .bool true]) w := run_typeAssert_hasB Tryz.underlying169 (by kernel_rfl) v xT w
theorem zvi (v : Value) (w : World) : (Go.method 465 159 v "Unwrap").run Tryz.prog w = .ok (231, v) w := by kernel_rfl
theorem zua (g : Nat) (t : TypeId) (q : Value) (w : World) (h1 : w.cell? ⟨g, 1, none⟩ = some (.iface t q)) :
  Calls Tryz.prog 231 #[.pointer (some ⟨g, 0, none⟩)] w fun e w' => e = .returned (.iface t q) /\ w' = w := by
 go_enter Tryz.func231, Tryz.ntmps231
 go_wp2
 go_ret
 exact ⟨rfl, rfl⟩
theorem Ch.unique {Ad : Nat -> Addr} {n₀ k : Nat} {W : World} : ∀ {us us' : List ByteArray} {v : Value}, Ch Ad n₀ W k us v -> Ch Ad n₀ W k us' v -> us = us'
 | [], [], _, _, _ => rfl
 | [], _ :: _, _, h, ⟨_, _, h', _⟩ => by rw [h] at h'; cases h'
 | _ :: _, [], _, ⟨_, _, h', _⟩, h => by rw [h] at h'; cases h'
 | s :: us, s' :: us', _, ⟨b, i, hv, _, c0, c1, hi⟩, ⟨b', i', hv', _, c0', c1', hi'⟩ => by
  rw [hv] at hv'
  cases hv'
  rw [c0] at c0'
  rw [c1] at c1'
  cases c0'
  cases c1'
  rw [Ch.unique hi hi']
theorem zzm {Ad : Nat -> Addr} {n₀ k : Nat} {W : World} {us : List ByteArray} {u : Value} (h : Ch Ad n₀ W k us u) : (Classical.epsilon fun n => ∃ us, Ch Ad n₀ W k us u /\ us.length = n) = us.length := by
 obtain ⟨us', h1, h2⟩ := Classical.epsilon_spec (p := fun n => ∃ us, Ch Ad n₀ W k us u /\ us.length = n) ⟨us.length, us, h, rfl⟩
 rw [Ch.unique h h1]
 exact h2.symm
theorem yae (a b : Addr) (w : World) (ha : SenK w a) (hb : SenK w b) : (binOp .eql 31 (.iface 330 (.pointer (some a))) (.iface 330 (.pointer (some b)))).run Tryz.prog w = .ok (.bool (decide (a = b))) w := by
 obtain ⟨ca, ta, ha⟩ := ha
 obtain ⟨cb, tb, hb⟩ := hb
 obtain ⟨i, hi, hcmp⟩ := Option.map_eq_some_iff.1 zov
 obtain ⟨j, hj, hjs⟩ := Option.map_eq_some_iff.1 zlv
 by_cases h : a = b
 ·subst h
  simpa using run_eql_iface_ptr_same (P := Tryz.prog) w a Tryz.underlying31 Tryz.underlying330 hi hcmp hj
 simpa [h] using run_eql_iface_ptr_other (P := Tryz.prog) w Tryz.underlying31 Tryz.underlying330 hi hcmp hj (ztd j hj) h ha hb
set_option maxRecDepth 100000 in
theorem z7m (Ad : Nat -> Addr) (n₀ k : Nat) (w : World) (ws : List ByteArray) (v : Value) (p : Nat) (hs1 : SenK w (Ad p)) (hs2 : SenK w (Ad k)) (hsame : decide (Ad p = Ad k) = decide (p = k)) (hc : Ch Ad n₀ w p ws v) :
  Calls Tryz.prog 47 #[v, .iface 330 (.pointer (some (Ad k))), .bool true] w fun e w' => e = .returned (.bool (decide (p = k))) /\ w' = w := by
 have EQ := hid (yae (Ad p) (Ad k) w hs1 hs2)
 rw [hsame] at EQ
 have HC := hid hc
 clear hs1 hs2 hsame hc
 generalize decide (p = k) = r at *
 cases r
 all_goals
  go_enter Tryz.func47, Tryz.ntmps47
  go_wp2_with fail
  go_loop [0, 7, 8, 9, 10, 12, 13] (fun u _ _ _ _ _ _ => ∃ us, Ch Ad n₀ w p us u) (fun u _ _ _ _ _ _ => Classical.epsilon fun n => ∃ us, Ch Ad n₀ w p us u /\ us.length = n)
  case atStart => exact ⟨ws, HC.out⟩
  case round =>
   obtain ⟨us, hu⟩ := hrel
   cases us with
   | nil =>
    obtain rfl : _ = Value.iface 330 (.pointer (some (Ad p))) := hu
    have heq := EQ.out
    have nE := zlz
    have uE := zev
    have vE := zei
    go_wp2_with fail
    go_ret
    exact ⟨rfl, rfl⟩
   | cons s us =>
    have HD := hid (zzm hu)
    obtain ⟨b, inner, rfl, hb, c0, c1, hin⟩ := hu
    have HD2 := hid (zzm hin)
    have HI := hid hin
    obtain ⟨t, q, rfl, ht⟩ := hin.shape
    have hty := run_eql_iface_types (P := Tryz.prog) 159 330 (.pointer (some ⟨b, 0, none⟩)) (.pointer (some (Ad k))) Tryz.underlying31 (by decide) w
    have nW := z3z
    have uW := zli
    have mU := zvi
    clear hin c0 hb ht EQ
    go_wp2_with (go_at_call 231; refine (zua b t q _ c1).mono ?_; rintro e w' ⟨rfl, rfl⟩)
    go_round
    case rel => exact ⟨us, HI.out⟩
    case measure => rw [HD2.out, HD.out]; simp
set_option maxRecDepth 100000 in
theorem ycg (Ad : Nat -> Addr) (k : Nat) (t : TypeId) (q : Value) (r : Bool) (w : World) (hC : Calls Tryz.prog 47 #[.iface t q, .iface 330 (.pointer (some (Ad k))), .bool true] w fun e w' => e = .returned (.bool r) /\ Below w.heap.size w w') :
  Calls Tryz.prog 11 #[.iface t q, .iface 330 (.pointer (some (Ad k)))] w fun e w' => e = .returned (.bool r) /\ Below w.heap.size w w' := by
 have h8 := @run_callFunc_extern Tryz.prog 46 _ Extern.ReflectliteType.typeOf Tryz.func46 (by kernel_rfl) (by kernel_rfl) (by kernel_rfl) (by kernel_rfl)
 have h32 := zqw
 have tT := zir
 have mR := zjs
 have HC := hid hC
 clear hC
 go_enter Tryz.func11, Tryz.ntmps11
 go_wp2_with fail
 refine HC.out.mono ?_
 rintro e w' ⟨rfl, hb⟩
 have HB := hid hb
 clear hb
 go_wp2_with fail
 go_ret
 exact ⟨rfl, HB.out⟩
end Go.Proofs.YthadfdbkkmmgoaaGreatDoor
namespace Go.Proofs.YthadfdbkkmmgoaaGreatDoor
open Go.RowKit Go.Shelf
theorem zdv (w : World) (x y : Value) (e : TypeId) : (w.alloc (.cells #[x, y] e)).cell? ⟨w.heap.size, 0, none⟩ = some x /\ (w.alloc (.cells #[x, y] e)).cell? ⟨w.heap.size, 1, none⟩ = some y := by
 have h := heap_alloc_new w (.cells #[x, y] e)
 exact ⟨cell_of_row _ _ 0 _ _ (0, 0) h, cell_of_row _ _ 1 _ _ (0, 0) h⟩
theorem at_nil (s : ByteArray) (w : World) : Calls Tryz.prog 38 #[.string s, .nilIface] w fun e w' => e = .returned .nilIface /\ w' = w := by
 go_enter Tryz.func38, Tryz.ntmps38
 go_wp2
 go_ret
 exact ⟨rfl, rfl⟩
theorem zpu (s : ByteArray) (t : TypeId) (q : Value) (w : World) : Calls Tryz.prog 38 #[.string s, .iface t q] w fun e w' => e = .returned (.iface 159 (.pointer (some ⟨w.heap.size, 0, none⟩))) /\ w' = w.alloc (.cells #[.string s, .iface t q] 161) := by
 go_enter Tryz.func38, Tryz.ntmps38
 go_wp2
 go_ret
 exact ⟨rfl, rfl⟩
theorem zgt (Ad : Nat -> Addr) (s : ByteArray) (d : Nat) (v : Value) (p : List ByteArray × Nat) (w : World) (h : Chn Ad w.heap.size w d v p) :
  Calls Tryz.prog 38 #[.string s, v] w fun e w' => ∃ v', e = .returned v' /\ Chn Ad w'.heap.size w' (d + 1) v' (s :: p.1, p.2) /\ Below w.heap.size w w' := by
 obtain ⟨t, q, rfl, _⟩ := h.1.shape
 refine (zpu s t q w).mono ?_
 rintro e w' ⟨rfl, rfl⟩
 have hb : Below w.heap.size w (w.alloc (.cells #[.string s, .iface t q] 161)) := (Below.refl _ _).alloc (Nat.le_refl _) _
 obtain ⟨c0, c1⟩ := zdv w (.string s) (.iface t q) 161
 have hc := h.move hb hb.size
 exact ⟨_, rfl, ⟨⟨w.heap.size, _, rfl, by simp, c0, c1, hc.1⟩, hc.2.1, hc.2.2.1, by have := h.2.2.2; simp; omega⟩, hb⟩
end Go.Proofs.YthadfdbkkmmgoaaGreatDoor
namespace Go.Proofs.YthadfdbkkmmgoaaGreatDoor.At
open Go.RowKit Go.Shelf Go.Maps
theorem zpm : Keyed Tryz.prog 46 := int_keyed Tryz.underlying46
theorem zun (w : World) : (zeroValue 3).run Tryz.prog w = .ok (.int .i64 0) w := by kernel_rfl
def I64 (i : Int) : Prop := (Lit.int .i64 i).wf = true
theorem zaj {n : Int} (h0 : -1000000 <= n) (h1 : n <= 1000000) : I64 n := by
 unfold I64 Lit.wf
 simp [IntKind.min, IntKind.max, IntKind.signed, IntKind.bits]
 omega
theorem ybw {m : Nat} (h : m < 4294967296) : (Lit.int .u32 (m : Int)).wf = true := by
 unfold Lit.wf
 simp [IntKind.min, IntKind.max, IntKind.signed, IntKind.bits]
 omega
theorem zwl (m : Nat) (h : m < 4294967296) : keyOf Tryz.prog 46 (.int .u32 (m : Int)) = some (.int .u32 (m : Int)) := keyOf_int_mk Tryz.underlying46 (ybw h)
def gM (m : Nat) : Value := .int .u32 (m : Int)
def gI (n : Nat) : Value := .int .i64 (n : Int)
def an (a b : Nat) : Nat := a &&& (4294967295 - b)
theorem zrt (a b i : Nat) (ha : a < 4294967296) (hb : b < 4294967296) : (an a b).testBit i = (a.testBit i && !b.testBit i) := by
 unfold an
 rw [Nat.testBit_and, show 4294967295 - b = 2 ^ 32 - (b + 1) by omega, Nat.testBit_two_pow_sub_succ (by omega)]
 by_cases h : i < 32
 ·simp [h]
 have : a.testBit i = false := Nat.testBit_lt_two_pow (Nat.lt_of_lt_of_le ha (show 2 ^ 32 <= 2 ^ i from Nat.pow_le_pow_right (by decide) (by omega)))
 simp [this]
theorem zfn {n : Nat} (h : n <= 16) : 2 ^ n <= 65536 := Nat.pow_le_pow_right (by decide) h
theorem zlx {c : Nat} (h : c < 32) : 2 ^ c < 4294967296 := Nat.lt_of_lt_of_le (Nat.pow_lt_pow_right (by decide) h) (by decide)
theorem zfq {a n i : Nat} (h : a < 2 ^ n) (hi : n <= i) : a.testBit i = false := Nat.testBit_lt_two_pow (Nat.lt_of_lt_of_le h (Nat.pow_le_pow_right (by decide) hi))
theorem zku {a n : Nat} (h : ∀ i, n <= i -> a.testBit i = false) : a < 2 ^ n := Nat.lt_pow_two_of_testBit a h
theorem zdx (a b : Nat) (ha : a < 4294967296) (hb : b < 4294967296) : bits .or .u32 (a : Int) (b : Int) = ((a ||| b : Nat) : Int) := u32_or_nat a b ha hb
theorem zcp (a b : Nat) (ha : a < 4294967296) (hb : b < 4294967296) : bits .and .u32 (a : Int) (b : Int) = ((a &&& b : Nat) : Int) := u32_and_nat a b ha hb
theorem zoq (a b : Nat) (ha : a < 4294967296) (hb : b < 4294967296) : bits .andNot .u32 (a : Int) (b : Int) = ((an a b : Nat) : Int) := u32_andNot_nat a b ha hb
def wi (m c : Nat) : Nat := m ||| 2 ^ c
theorem z4m (m c i : Nat) : (wi m c).testBit i = (m.testBit i || decide (c = i)) := by
 unfold wi; rw [Nat.testBit_or, Nat.testBit_two_pow]
theorem z2v {m c n : Nat} (hm : m < 2 ^ n) (hc : c < n) : wi m c < 2 ^ n := Nat.or_lt_two_pow hm (Nat.pow_lt_pow_right (by decide) hc)
theorem within_iff {m n : Nat} (hm : m < 4294967296) (hn : n <= 16) : an m (2 ^ n - 1) = 0 ↔ m < 2 ^ n := by
 have hp := zfn hn
 have hp0 : 0 < 2 ^ n := Nat.two_pow_pos n
 constructor
 ·intro h
  refine zku fun i hi => ?_
  have := zrt m (2 ^ n - 1) i hm (by omega)
  rw [h, Nat.zero_testBit, Nat.testBit_two_pow_sub_one, decide_eq_false (by omega)] at this
  simpa using this.symm
 intro h
 refine Nat.eq_of_testBit_eq fun i => ?_
 rw [zrt m (2 ^ n - 1) i hm (by omega), Nat.zero_testBit, Nat.testBit_two_pow_sub_one]
 by_cases hi : i < n
 ·simp [hi]
 rw [zfq h (by omega)]; rfl
def add (l : List Nat) (m : Nat) : List Nat := if m ∈ l then l else l ++ [m]
theorem zzh (l : List Nat) (m : Nat) : (add l m).idxOf m = l.idxOf m := by
 unfold add
 split
 ·rfl
 rename_i h
 rw [List.idxOf_append, if_neg h, List.idxOf_eq_length h]
 simp
theorem z7v {l : List Nat} {m : Nat} (h : m ∈ l) : l[l.idxOf m]? = some m := by
 have hl := List.idxOf_lt_length_of_mem h
 rw [List.getElem?_eq_getElem hl]
 simp
theorem zpp (l : List Nat) (m : Nat) : m ∈ add l m := by unfold add; split <;> simp_all
theorem zzv (l : List Nat) (m : Nat) : (add l m)[l.idxOf m]? = some m := by
 rw [<- zzh]; exact z7v (zpp l m)
theorem z8o {l : List Nat} {m x : Nat} : x ∈ add l m ↔ x ∈ l \/ x = m := by
 unfold add
 split
 ·rename_i h
  exact ⟨.inl, fun q => q.elim id fun e => e ▸ h⟩
 simp
theorem z0k {l : List Nat} (h : l.Nodup) (m : Nat) : (add l m).Nodup := by
 unfold add
 split
 ·exact h
 rename_i hm
 rw [List.nodup_append]
 exact ⟨h, by simp, fun a ha b hb e => hm (by simp at hb; subst hb; exact e ▸ ha)⟩
theorem z0a {l : List Nat} {i : Nat} (m : Nat) (h : i < l.length) : (add l m)[i]? = l[i]? := by
 unfold add
 split
 ·rfl
 rw [List.getElem?_append_left h]
theorem ybv (l : List Nat) (m : Nat) : l.idxOf m <= l.length := List.idxOf_le_length
theorem zqz {l : List Nat} {N : Nat} (h : l.Nodup) (hl : ∀ x ∈ l, x < N) : l.length <= N := by
 have := h.length_le_of_subset (l₂ := List.range N) fun x hx => List.mem_range.2 (hl x hx)
 simpa using this
def Holds (D : DataW Unit) (l : List Nat) : Prop :=
 (∀ m : Nat, m < 4294967296 -> Maps.has D (.int .u32 (m : Int)) = decide (m ∈ l) /\ D.atKey (.int .u32 (m : Int)) (.lit (.int .i64 0)) = .lit (.int .i64 (if m ∈ l then (l.idxOf m : Int) else 0))) /\ Maps.size D = l.length
theorem z4l (i : Int) : WideAt.IsKeyLit (.int .u32 i) := trivial
theorem zcl {i j : Nat} (h : i ≠ j) : (Lit.int .u32 (i : Int)) ≠ .int .u32 (j : Int) := fun e => by
 have : (i : Int) = (j : Int) := by simpa using e
 exact h (by exact_mod_cast this)
theorem Holds.snoc {D : DataW Unit} {l : List Nat} (hD : Tidy D) (h : Holds D l) {m : Nat} (hm : m ∉ l) (hm32 : m < 4294967296) : Holds (D.put (.int .u32 (m : Int)) (.lit (.int .i64 (l.length : Int)))) (l ++ [m]) := by
 refine ⟨fun i hi => ?_, ?_⟩
 ·by_cases e : i = m
  ·subst e
   rw [Maps.has_put_same hD.isMap (z4l _) _, Maps.atKey_put_same hD.isMap (z4l _) _ _, if_pos (by simp), List.idxOf_append, if_neg hm]
   simp
  rw [Maps.has_put_other (zcl e), Maps.atKey_put_other (zcl e), (h.1 i hi).1, (h.1 i hi).2]
  have : i ∈ l ++ [m] ↔ i ∈ l := by simp [e]
  by_cases hl : i ∈ l
  ·rw [if_pos hl, if_pos (this.2 hl), List.idxOf_append, if_pos hl]
   simp [hl]
  rw [if_neg hl, if_neg (fun q => hl (this.1 q))]
  simp [hl, e]
 rw [Maps.size_put hD, (h.1 m hm32).1, h.2]
 simp [hm]
theorem zie {W : World} {mb n : Nat} {D : DataW Unit} {l : List Nat} (h : W.ownsMap Tryz.prog 46 (plainElem Tryz.prog 3) mb n D) (hH : Holds D l) (m : Nat) (hm : m < 4294967296) :
  (Instr.lookup 242 (.map (some mb)) (.int .u32 (m : Int)) true).run Tryz.prog W = .ok (.tuple #[.int .i64 (if m ∈ l then (l.idxOf m : Int) else 0), .bool (decide (m ∈ l))]) W := by
 obtain ⟨v, ps, hr, hv⟩ := h.look_ok zpm Tryz.underlying242 (zun W) (plainElem_int Tryz.underlying3 (by decide)) (zwl m hm)
 obtain ⟨a, rfl, e, _⟩ := plainElem_int_inv Tryz.underlying3 hv
 rw [(hH.1 m hm).2] at e
 simp only [Prod.mk.injEq, DataW.lit.injEq, Lit.int.injEq, true_and] at e
 rw [hr, (hH.1 m hm).1, e.1]
structure St (S : Nat -> Prop) (W W' : World) : Prop where
 os : W'.os = W.os
 tape : W'.tape = W.tape
 output : W'.output = W.output
 size : W.heap.size <= W'.heap.size
 block : ∀ k, k < W.heap.size -> ¬ S k -> W'.heap[k]? = W.heap[k]?
theorem St.refl (S : Nat -> Prop) (W : World) : St S W W := ⟨rfl, rfl, rfl, Nat.le_refl _, fun _ _ _ => rfl⟩
theorem St.trans {S T : Nat -> Prop} {a b c : World} (h : St S a b) (k : St T b c) (hs : ∀ x, x < a.heap.size -> T x -> S x) : St S a c :=
 ⟨k.os.trans h.os, k.tape.trans h.tape, k.output.trans h.output, Nat.le_trans h.size k.size, fun x hx hn => (k.block x (Nat.lt_of_lt_of_le hx h.size) (fun q => hn (hs x hx q))).trans (h.block x hx hn)⟩
theorem St.of_below {S : Nat -> Prop} {a b : World} (h : Below a.heap.size a b) : St S a b := ⟨h.os, h.tape, h.output, h.size, fun k hk _ => h.block k hk⟩
theorem St.zam {S : Nat -> Prop} {a b : World} {row : Option Nat} (h : a.grownBy b row) (hS : ∀ k, row = some k -> S k) : St S a b :=
 ⟨h.os, h.tape, h.output, h.size, fun k hk hn => h.block k hk (fun e => hn (hS k e.symm))⟩
theorem St.below {S : Nat -> Prop} {a b : World} {B : Nat} (h : St S a b) (hS : ∀ k, S k -> B <= k) (hB : B <= a.heap.size) : Below B a b :=
 ⟨h.os, h.tape, h.output, h.size, fun k hk => h.block k (by omega) (fun q => by have := hS k q; omega)⟩
theorem St.setCell {S : Nat -> Prop} {a : World} {p : Addr} (v : Value) (hp : S p.block) : St S a (a.setCell p v) :=
 ⟨rfl, rfl, rfl, by simp, fun k _ hn => Below.heap_setCell _ _ _ _ (fun e => hn (e ▸ hp))⟩
theorem St.at {S : Nat -> Prop} {W W' : World} {b : Nat} {o : Obj} (hs : St S W W') (h : W.heap[b]? = some o) (hn : ¬ S b) : W'.heap[b]? = some o := (hs.block b (Array.getElem?_eq_some_iff.1 h).1 hn).trans h
theorem bAl (W : World) (o : Obj) : Below W.heap.size W (W.alloc o) := (Below.refl _ _).alloc (Nat.le_refl _) _
theorem zaa {W : World} {b j : Nat} {cs : Array Value} {e : TypeId} {u : Value} (h : W.heap[b]? = some (.cells cs e (0, 0))) (hj : cs[j]? = some u) : W.cell? ⟨b, j, none⟩ = some u := by
 rw [cell_of_row _ _ j _ e (0, 0) h]; exact hj
theorem zac {W : World} {b : Nat} {cs : Array Value} {e : TypeId} (h : W.heap[b]? = some (.cells cs e (0, 0))) (j : Nat) : W.frozen? ⟨b, j, none⟩ = false := by
 unfold World.frozen?
 rw [show (⟨b, j, none⟩ : Addr).block = b from rfl, h]
 simp
theorem zab {W W' : World} {B b : Nat} {o : Obj} (hb : Below B W W') (hB : W.heap.size <= B) (h : W.heap[b]? = some o) : W'.heap[b]? = some o := (hb.block b (Nat.lt_of_lt_of_le (Array.getElem?_eq_some_iff.1 h).1 hB)).trans h
theorem seen {B : Nat} {W W' : World} (hb : Below B W W') (hB : W.heap.size <= B) {p : Addr} {u : Value} (h : W.cell? p = some u) : W'.cell? p = some u := (hb.cell (p := p) (Nat.lt_of_lt_of_le (World.block_lt_of_cell? W p h) hB)).trans h
structure AS where
 n : Nat
 l : List Nat
structure AS.ok (s : AS) : Prop where
 n16 : s.n <= 16
 nd : s.l.Nodup
 lt : ∀ m ∈ s.l, m < 2 ^ s.n
theorem AS.ok.small {s : AS} (h : s.ok) : s.l.length <= 65536 := Nat.le_trans (zqz h.nd h.lt) (zfn h.n16)
theorem AS.ok.u16 {s : AS} (h : s.ok) {m : Nat} (hm : m ∈ s.l) : m < 65536 := Nat.lt_of_lt_of_le (h.lt m hm) (zfn h.n16)
def AS.put (s : AS) (m : Nat) : AS := ⟨s.n, add s.l m⟩
theorem AS.ok.put {s : AS} (h : s.ok) {m : Nat} (hm : m < 2 ^ s.n) : (s.put m).ok :=
 ⟨h.n16, z0k h.nd m, fun x hx => (z8o.1 hx).elim (h.lt x) fun e => e ▸ hm⟩
def Ft (rb mb : Nat) (sv : Value) (k : Nat) : Prop := k = rb \/ k = mb \/ sv.ownBlock = some k
structure Cl (B : Nat) (W : World) (rb mb : Nat) (sv : Value) (s : AS) : Prop where
 box : W.heap[rb]? = some (.cells #[.int .u32 ((2 ^ s.n - 1 : Nat) : Int), sv, .map (some mb)] 245 (0, 0))
 row : W.ownsRow B 46 1 sv s.l.length (s.l.map gM)
 map : ∃ D, W.ownsMap Tryz.prog 46 (plainElem Tryz.prog 3) mb s.l.length D /\ Holds D s.l
 ok : s.ok
 low : B <= rb /\ B <= mb
section
variable {B : Nat} {W W' : World} {rb mb : Nat} {sv : Value} {s : AS}
theorem Cl.kept {T : Nat -> Prop} (h : Cl B W rb mb sv s) (hs : St T W W') (hd : ∀ k, Ft rb mb sv k -> ¬ T k) : Cl B W' rb mb sv s := by
 have lt := fun {k : Nat} {o : Obj} (h : W.heap[k]? = some o) => (Array.getElem?_eq_some_iff.1 h).1
 refine ⟨(hs.block rb (lt h.box) (hd _ (.inl rfl))).trans h.box, ?_, ?_, h.ok, h.low⟩
 ·exact zas h.row fun g cur hg hb => (hs.block g (lt hb) (hd _ (.inr (.inr hg)))).trans hb
 obtain ⟨D, ⟨es, clock, hb, q⟩, hH⟩ := h.map
 exact ⟨D, ⟨es, clock, (hs.block mb (lt hb) (hd _ (.inr (.inl rfl)))).trans hb, q⟩, hH⟩
theorem Cl.lt (h : Cl B W rb mb sv s) (k : Nat) (hk : Ft rb mb sv k) : B <= k /\ k < W.heap.size := by
 have lt := fun {k : Nat} {o : Obj} (h : W.heap[k]? = some o) => (Array.getElem?_eq_some_iff.1 h).1
 rcases hk with rfl | rfl | hk
 ·exact ⟨h.low.1, lt h.box⟩
 ·obtain ⟨D, hD, _⟩ := h.map; exact ⟨h.low.2, hD.lt⟩
 exact h.row.lt k hk
theorem Cl.base (h : Cl B W rb mb sv s) : B <= W.heap.size := by have := h.lt rb (.inl rfl); omega
theorem Cl.c0 (h : Cl B W rb mb sv s) : W.cell? ⟨rb, 0, none⟩ = some (.int .u32 ((2 ^ s.n - 1 : Nat) : Int)) := zaa h.box rfl
theorem Cl.c1 (h : Cl B W rb mb sv s) : W.cell? ⟨rb, 1, none⟩ = some sv := zaa h.box rfl
theorem Cl.c2 (h : Cl B W rb mb sv s) : W.cell? ⟨rb, 2, none⟩ = some (.map (some mb)) := zaa h.box rfl
theorem Cl.zgh (h : Cl B W rb mb sv s) : rb ≠ mb := fun e => by
 have h1 := h.box
 obtain ⟨D, ⟨es, cl, hb, _⟩, _⟩ := h.map
 rw [e, hb] at h1
 simp at h1
theorem Cl.ne_f (h : Cl B W rb mb sv s) (k : Nat) (hk : sv.ownBlock = some k) : k ≠ rb /\ k ≠ mb := by
 rcases h.row.2 with ⟨h1, _⟩ | ⟨g, cap, cur, h1, h2, h3, h4⟩
 ·rw [h1] at hk; simp [Value.ownBlock] at hk
 rw [h1] at hk
 have e : g = k := by simpa [Value.ownBlock] using hk
 subst e
 refine ⟨fun e => ?_, fun e => ?_⟩
 ·rw [e, h.box] at h3; simp at h3
 obtain ⟨D, ⟨es, cl, hb, _⟩, _⟩ := h.map
 rw [e, hb] at h3; simp at h3
end
def Atl (B : Nat) (W : World) (rb : Nat) (s : AS) (S : Nat -> Prop) : Prop := ∃ mb sv, Cl B W rb mb sv s /\ ∀ k, S k ↔ Ft rb mb sv k
def Goes (B rb : Nat) (s' : AS) (S : Nat -> Prop) (W W' : World) : Prop := ∃ S', Atl B W' rb s' S' /\ St S W W' /\ ∀ x, S' x -> S x \/ W.heap.size <= x
section
variable {B : Nat} {W W' : World} {rb : Nat} {s : AS} {S : Nat -> Prop}
theorem Atl.kept {T : Nat -> Prop} (h : Atl B W rb s S) (hs : St T W W') (hd : ∀ k, S k -> ¬ T k) : Atl B W' rb s S := by
 obtain ⟨mb, sv, h1, h2⟩ := h
 exact ⟨mb, sv, h1.kept hs fun k hk => hd k ((h2 k).2 hk), h2⟩
theorem Atl.later (h : Atl B W rb s S) (hb : Below W.heap.size W W') : Atl B W' rb s S := h.kept (T := fun _ => False) (St.of_below hb) fun _ _ q => q
theorem Atl.lt (h : Atl B W rb s S) (k : Nat) (hk : S k) : B <= k /\ k < W.heap.size := by
 obtain ⟨mb, sv, h1, h2⟩ := h
 exact h1.lt k ((h2 k).1 hk)
theorem Atl.ok (h : Atl B W rb s S) : s.ok := by obtain ⟨mb, sv, h1, h2⟩ := h; exact h1.ok
theorem Atl.lower {B' : Nat} (h : Atl B W rb s S) (hB : B' <= B) : Atl B' W rb s S := by
 obtain ⟨mb, sv, h1, h2⟩ := h
 refine ⟨mb, sv, ⟨h1.box, ⟨h1.row.1, ?_⟩, h1.map, h1.ok, by have := h1.low; omega, by have := h1.low; omega⟩, h2⟩
 rcases h1.row.2 with q | ⟨g, cap, cur, q1, q2, q3⟩
 ·exact .inl q
 exact .inr ⟨g, cap, cur, q1, by omega, q3⟩
theorem Goes.stay (h : Atl B W rb s S) (hb : Below W.heap.size W W') : Goes B rb s S W W' := ⟨S, h.later hb, St.of_below hb, fun _ q => .inl q⟩
end
def bitI (n : Int) : Int := if 0 <= n /\ n < 32 then 2 ^ n.toNat % 4294967296 else 0
theorem zqs (n : Int) (w : World) (h : n < 0) : Calls Tryz.prog 138 #[.int .i64 n] w fun e w' => e = .returned (.int .u32 0) /\ w' = w := by
 go_enter Tryz.func138, Tryz.ntmps138
 go_wp2
 go_ret
 exact ⟨rfl, rfl⟩
theorem zme (n : Int) (w : World) (h : 32 <= n) : Calls Tryz.prog 138 #[.int .i64 n] w fun e w' => e = .returned (.int .u32 0) /\ w' = w := by
 have h0 : ¬ n < 0 := by omega
 go_enter Tryz.func138, Tryz.ntmps138
 go_wp2
 go_ret
 exact ⟨rfl, rfl⟩
theorem zwz (n : Nat) (w : World) (h : n < 32) : Calls Tryz.prog 138 #[.int .i64 (n : Int)] w fun e w' => e = .returned (.int .u32 (2 ^ n % 4294967296)) /\ w' = w := by
 have h0 : ¬ (n : Int) < 0 := by omega
 have h1 : ¬ (32 : Int) <= n := by omega
 go_enter Tryz.func138, Tryz.ntmps138
 go_wp2
 go_ret
 exact ⟨rfl, rfl⟩
theorem zja (n : Int) (w : World) : Calls Tryz.prog 138 #[.int .i64 n] w fun e w' => e = .returned (.int .u32 (bitI n)) /\ w' = w := by
 by_cases h0 : n < 0
 ·rw [show bitI n = 0 from if_neg (by omega)]; exact zqs n w h0
 by_cases h1 : 32 <= n
 ·rw [show bitI n = 0 from if_neg (by omega)]; exact zme n w h1
 obtain ⟨k, rfl⟩ := Int.eq_ofNat_of_zero_le (show 0 <= n by omega)
 rw [show bitI (k : Int) = 2 ^ k % 4294967296 from (if_pos (by omega)).trans (by rw [Int.toNat_natCast])]
 exact zwz k w (by omega)
theorem zhs (k : Nat) (hk : k < 32) : bitI (k : Int) = ((2 ^ k : Nat) : Int) := by
 have hp : 2 ^ k < 4294967296 := zlx hk
 unfold bitI
 rw [if_pos (by omega), Int.toNat_natCast]
 have : (2 : Int) ^ k = ((2 ^ k : Nat) : Int) := (Int.natCast_pow 2 k).symm
 rw [this]
 exact Int.emod_eq_of_lt (Int.natCast_nonneg _) (by generalize 2 ^ k = p at hp ⊢; omega)
theorem zsd (n : Int) (h : ¬ (0 <= n /\ n < 32)) : bitI n = 0 := if_neg h
theorem zff (m n : Int) (w : World) : Calls Tryz.prog 133 #[.int .u32 m, .int .i64 n] w fun e w' => e = .returned (.int .u32 (bits .or .u32 m (bitI n))) /\ w' = w := by
 have BC := hid (zja n w)
 go_enter Tryz.func133, Tryz.ntmps133
 go_wp2_with fail
 refine BC.out.mono ?_
 rintro e w1 ⟨rfl, rfl⟩
 go_wp2_with fail
 go_ret
 exact ⟨rfl, rfl⟩
theorem zus (m n : Int) (w : World) : Calls Tryz.prog 94 #[.int .u32 m, .int .i64 n] w fun e w' => e = .returned (.bool (bits .and .u32 m (bitI n) != 0)) /\ w' = w := by
 have BC := hid (zja n w)
 go_enter Tryz.func94, Tryz.ntmps94
 go_wp2_with fail
 refine BC.out.mono ?_
 rintro e w1 ⟨rfl, rfl⟩
 go_wp2_with fail
 go_ret
 exact ⟨rfl, rfl⟩
theorem zht (m a : Int) (w : World) : Calls Tryz.prog 93 #[.int .u32 m, .int .u32 a] w fun e w' => e = .returned (.bool (bits .andNot .u32 m a == 0)) /\ w' = w := by
 go_enter Tryz.func93, Tryz.ntmps93
 go_wp2
 go_ret
 exact ⟨rfl, rfl⟩
theorem zzu (m c : Nat) (hm : m < 4294967296) (hc : c < 32) (w : World) : Calls Tryz.prog 133 #[.int .u32 (m : Int), .int .i64 (c : Int)] w fun e w' => e = .returned (.int .u32 ((wi m c : Nat) : Int)) /\ w' = w := by
 have := zff (m : Int) (c : Int) w
 rw [zhs c hc, zdx m _ hm (zlx hc)] at this
 exact this
theorem zfc (a : Nat) : (((a : Nat) : Int) == 0) = decide (a = 0) := by
 rw [Bool.eq_iff_iff]
 simp
theorem zto (m a : Nat) (hm : m < 4294967296) (ha : a < 4294967296) (w : World) : Calls Tryz.prog 93 #[.int .u32 (m : Int), .int .u32 (a : Int)] w fun e w' => e = .returned (.bool (decide (an m a = 0))) /\ w' = w := by
 have := zht (m : Int) (a : Int) w
 rw [zoq m a hm ha, zfc] at this
 exact this
theorem zpv (m k : Nat) : (m &&& 2 ^ k ≠ 0) ↔ m.testBit k = true := by
 have hb : (m &&& 2 ^ k).testBit k = m.testBit k := by rw [Nat.testBit_and, Nat.testBit_two_pow_self, Bool.and_true]
 cases ht : m.testBit k with
 | true =>
  rw [ht] at hb
  exact ⟨fun _ => rfl, fun _ h0 => by rw [h0] at hb; simp at hb⟩
 | false =>
  have : m &&& 2 ^ k = 0 := Nat.eq_of_testBit_eq fun i => by
   rw [Nat.testBit_and, Nat.testBit_two_pow, Nat.zero_testBit]
   by_cases hik : k = i
   ·subst hik; rw [ht]; rfl
   rw [decide_eq_false hik, Bool.and_false]
  simp [this]
theorem zgb (m k : Nat) (hm : m < 4294967296) (hk : k < 32) (w : World) : Calls Tryz.prog 94 #[.int .u32 (m : Int), .int .i64 (k : Int)] w fun e w' => e = .returned (.bool (m.testBit k)) /\ w' = w := by
 have := zus (m : Int) (k : Int) w
 have e : (((m &&& 2 ^ k : Nat) : Int) != 0) = m.testBit k := by
  rw [bne, zfc, Bool.eq_iff_iff, <- zpv]
  simp
 rw [zhs k hk, zcp m _ hm (zlx hk), e] at this
 exact this
end Go.Proofs.YthadfdbkkmmgoaaGreatDoor.At
