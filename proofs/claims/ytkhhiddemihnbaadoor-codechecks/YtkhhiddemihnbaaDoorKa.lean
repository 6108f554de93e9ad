/- A range over a function whose rounds are handed things that lie in memory: what lies there is told round by round. -/
import Derived.RangeFuncFrom
import Derived.RangeFuncLeaves
namespace Go.Proofs.YtkhhiddemihnbaaDoor
open Go.RowKit
/-- Of the blocks that lay, those from B on that are P may have turned; all others lie as they lay. -/
structure Turn (P : Obj → Prop) (B : Nat) (A A' : World) : Prop where
  os : A'.os = A.os
  tape : A'.tape = A.tape
  output : A'.output = A.output
  size : A.heap.size ≤ A'.heap.size
  block : ∀ (k : Nat) (o : Obj), A.heap[k]? = some o → (k < B ∨ ¬ P o) → A'.heap[k]? = some o
theorem Turn.refl (P : Obj → Prop) (B : Nat) (A : World) : Turn P B A A := ⟨rfl, rfl, rfl, Nat.le_refl _, fun _ _ h _ => h⟩
theorem Turn.trans {P : Obj → Prop} {B : Nat} {a b c : World} (h : Turn P B a b) (k : Turn P B b c) : Turn P B a c :=
  ⟨k.os.trans h.os, k.tape.trans h.tape, k.output.trans h.output, Nat.le_trans h.size k.size, fun i o ho hp => k.block i o (h.block i o ho hp) hp⟩
theorem Turn.mono {P P' : Obj → Prop} {B B' : Nat} {a b : World} (h : Turn P B a b) (hP : ∀ o, P o → P' o) (hB : B' ≤ B) : Turn P' B' a b :=
  ⟨h.os, h.tape, h.output, h.size, fun i o ho hp => h.block i o ho (hp.elim (fun q => .inl (by omega)) (fun q => .inr fun hp => q (hP _ hp)))⟩
theorem Turn.put {P : Obj → Prop} {B : Nat} {W : World} {l : Nat} {o : Obj} (o' : Obj) (hB : B ≤ l) (hl : W.heap[l]? = some o) (ho : P o) : Turn P B W (W.putObj l o') := by
  refine ⟨rfl, rfl, rfl, by simp, fun k q hq hp => ?_⟩
  by_cases e : k = l
  · subst e
    rw [hl] at hq
    cases hq
    rcases hp with h | h
    · omega
    · exact absurd ho h
  · exact (World.putObj_heap_other e).trans hq
theorem Turn.alloc (P : Obj → Prop) (B : Nat) (W : World) (o : Obj) : Turn P B W (W.alloc o) :=
  ⟨rfl, rfl, rfl, by simp, fun k q hq _ => (Below.heap_alloc W o k (Array.getElem?_eq_some_iff.1 hq).1).trans hq⟩
theorem Turn.below {P : Obj → Prop} {B : Nat} {a b : World} (h : Turn P B a b) (hB : B ≤ a.heap.size) : Below B a b :=
  ⟨h.os, h.tape, h.output, h.size, fun k hk => by
    have : k < a.heap.size := by omega
    rw [Array.getElem?_eq_getElem this]
    exact h.block k _ (Array.getElem?_eq_getElem this) (.inl hk)⟩
theorem Turn.of_below {P : Obj → Prop} {B : Nat} {a b : World} (h : Below a.heap.size a b) : Turn P B a b :=
  ⟨h.os, h.tape, h.output, h.size, fun k _ hk _ => (h.block k (Array.getElem?_eq_some_iff.1 hk).1).trans hk⟩
/-- A block that is no cells. -/
def Odd (o : Obj) : Prop := o.isCells = false
variable {F : Fence} {n : Nat} {P : Program}
theorem range_law {α : Type} {g : Operand} {ps : Array Tmp} {assign body : Code} {Q : Exit → Act → World → Prop} {a : Act} {w : World}
    (hro : F.round = none) (h1 : 1 ≤ n) {gf : Nat} {lb : Array Value} (hg : a.eval g = .func (.func gf) #[] lb) (hFg : F.fn gf) (eg : ∀ args w, (callFunc gf args).run P w = .ok (.enter gf args) w)
    (encs : α → Array Value) (hps : ∀ x, (encs x).size = ps.size) (row : Obj → Prop) (hrow : ∀ o, row o → o.isCells = true) (R : List α → α → World → Prop) (I : List α → World → Prop) (Ix : Code → List α → World → Prop) (Kp : World → World → Prop) (S Sp : List α → Prop)
    (hR : ∀ s x A B, R s x A → Turn Odd w.heap.size A B → R s x B)
    (hI : ∀ s A B, I s A → Turn (fun o => row o ∨ Odd o) w.heap.size A B → I s B) (hIx : ∀ c s A B, Ix c s A → Turn (fun o => row o ∨ Odd o) w.heap.size A B → Ix c s B) (h0 : I [] w)
    (n₀ : Nat) (hBi : ∀ s A, I s A → Below n₀ w A) (hBx : ∀ c s A, Ix c s A → Below n₀ w A)
    (hKt : ∀ {A B C : World}, Kp A B → Kp B C → Kp A C) (hKb : ∀ {A B : World}, Turn Odd w.heap.size A B → Kp A B)
    (hseq : ∀ (l : Nat) (J Jx : List α → World → Prop) (W : World), Below w.heap.size w W → (∀ s A B, J s A → Turn row w.heap.size A B → J s B) → (∀ s A B, Jx s A → Turn row w.heap.size A B → Jx s B) →
      (∀ pre x W1, J pre W1 → R pre x W1 → YieldAt F (n - 1 - 1) P l (encs x) W1 fun e W' => (e = .returned (.bool true) ∧ J (pre ++ [x]) W' ∧ Kp W1 W') ∨ (e = .returned (.bool false) ∧ Jx (pre ++ [x]) W' ∧ Below n₀ W1 W')) → J [] W →
      CallsIn F (n - 1) P gf (#[.func (.yield l) #[] #[]] ++ lb) W fun e W' => (∃ v, e = .returned v) ∧ ((∃ xs, S xs ∧ J xs W') ∨ (∃ pre, Sp pre ∧ Jx pre W')))
    (a₁ : α → Act)
    (hassign : ∀ (l : Nat) (x : α) (W : World) (K : Act → World → Prop), K (a₁ x) W →
      assign.wpIn (F.inRound l) (n - 1 - 1) P (Exit.then K (fun _ _ _ => False)) { tmps := (ps.zip (encs x)).foldl (fun t (p, v) => t.setIfInBounds p v) a.tmps, defers := [] } W)
    (hbody : ∀ (l : Nat) (pre : List α) (x : α) (W : World), w.heap.size ≤ l → I pre W → R pre x W → body.wpIn (F.inRound l) (n - 1 - 1) P (ownPostK Kp I Ix (pre ++ [x]) W) (a₁ x) W)
    (hdone : ∀ (D : Nat) (xs : List α) (W : World), w.heap.size ≤ D → S xs → I xs W → W.heap[D]? = some (.deferred (some [])) → Q .normal { a with defers := { target := .collected D, args := #[] } :: a.defers } W)
    (hstop : ∀ (D : Nat) (c : Code) (pre : List α) (W : World), w.heap.size ≤ D → Sp pre → Ix c pre W → W.heap[D]? = some (.deferred (some [])) → c.wpIn F n P Q { a with defers := { target := .collected D, args := #[] } :: a.defers } W) :
    (Code.rangeFunc g ps assign body).wpIn F n P Q a w := by
  refine wpIn_rangeFunc fun fn hfn => ?_
  rw [hro]
  generalize hD : w.heap.size = D at *
  obtain ⟨book, hbook⟩ : ∃ book : LoopState → Option Code → Loop, ∀ st pe, book st pe = { state := st, pending := pe, fn, tmps := a.tmps, params := ps, assign, body, defers := D } := ⟨fun st pe => _, fun _ _ => rfl⟩
  obtain ⟨V, hV⟩ : ∃ V, V = (w.alloc (.deferred (some []))).alloc (.loop (book .ready none)) := ⟨_, rfl⟩
  have oddL : ∀ st pe, Odd (.loop (book st pe)) := fun _ _ => rfl
  have nrowL : ∀ st pe, ¬ row (.loop (book st pe)) := fun st pe h => by have := hrow _ h; cases this
  have nrowD : ¬ row (.deferred (some [])) := fun h => by have := hrow _ h; cases this
  have vD : V.heap[D]? = some (.deferred (some [])) := by
    rw [hV, ← hD]; exact (Below.heap_alloc _ _ _ (by simp)).trans (World.alloc_heap_new w _)
  have vL : V.heap[D + 1]? = some (.loop (book .ready none)) := by
    have := World.alloc_heap_new (w.alloc (.deferred (some []))) (.loop (book .ready none))
    rw [World.size_alloc, hD] at this
    rw [hV]; exact this
  have wV : Turn (fun o => row o ∨ Odd o) D w V := by rw [hV]; exact (Turn.alloc _ _ _ _).trans (Turn.alloc _ _ _ _)
  have bV : Below D w V := wV.below (by omega)
  refine ⟨D + 1, [{ target := .collected D, args := #[] }], V, { target := .fn (.func gf) lb, args := #[.func (.yield (D + 1)) #[] #[]] }, V, gf, #[.func (.yield (D + 1)) #[] #[]] ++ lb, V, ?_, ?_, ?_, ?_, fun _ => h1, ?_⟩
  · rw [hV, hbook, ← hD]; exact run_enterLoop_outer _ _ _ _ _
  · simp only [resolve, hg]; simp [go_sem]
  · intro f' hf'; simp [Target.leads] at hf'; subst hf'; exact hFg
  · simp [invoke, go_sem, eg]
  have step : ∀ (A : World) (st st' : LoopState) (pe pe' : Option Code), A.heap[D + 1]? = some (.loop (book st pe)) → A.heap[D]? = some (.deferred (some [])) →
      Turn Odd D A (A.putObj (D + 1) (.loop (book st' pe'))) ∧ (A.putObj (D + 1) (.loop (book st' pe'))).heap[D + 1]? = some (.loop (book st' pe')) ∧ (A.putObj (D + 1) (.loop (book st' pe'))).heap[D]? = some (.deferred (some [])) :=
    fun A st st' pe pe' hl hk => ⟨Turn.put _ (by omega) hl (oddL _ _), World.putObj_heap_same (Array.getElem?_eq_some_iff.1 hl).1, (World.putObj_heap_other (by omega)).trans hk⟩
  have toI : ∀ {A B : World}, Turn Odd D A B → Turn (fun o => row o ∨ Odd o) D A B := fun h => h.mono (fun _ => .inr) (Nat.le_refl _)
  have ofRow : ∀ {A B : World}, Turn row D A B → Turn (fun o => row o ∨ Odd o) D A B := fun h => h.mono (fun _ => .inl) (Nat.le_refl _)
  refine (hseq (D + 1) (fun pre W => I pre W ∧ W.heap[D + 1]? = some (.loop (book .ready none)) ∧ W.heap[D]? = some (.deferred (some [])))
    (fun pre W => ∃ c, Ix c pre W ∧ W.heap[D + 1]? = some (.loop (book .done (some c))) ∧ W.heap[D]? = some (.deferred (some []))) V bV ?_ ?_ ?_ ⟨hI _ _ _ h0 wV, vL, vD⟩).mono ?_
  · rintro s A B ⟨h, hl, hk⟩ ht
    exact ⟨hI s A B h (ofRow ht), ht.block _ _ hl (.inr (nrowL _ _)), ht.block _ _ hk (.inr nrowD)⟩
  · rintro s A B ⟨c, h, hl, hk⟩ ht
    exact ⟨c, hIx c s A B h (ofRow ht), ht.block _ _ hl (.inr (nrowL _ _)), ht.block _ _ hk (.inr nrowD)⟩
  · rintro pre x W ⟨hi, hl, hk⟩ hr
    obtain ⟨t1, l1, k1⟩ := step W .ready .busy none none hl hk
    have hy := run_yield (P := P) (args := encs x) hl (by rw [hbook]; exact hps x)
    rw [hbook] at hy
    have hbg := run_beginRound (P := P) hl (by rw [hbook])
    rw [show ({ book .ready none with state := .busy } : Loop) = book .busy none by rw [hbook, hbook]] at hbg
    refine ⟨fn, _, assign, body, hy, roundIn_of_wpIn hfn (hassign _ x W _ ⟨_, hbg, ?_⟩)⟩
    refine wpIn_mono (hbody (D + 1) pre x _ (by omega) (hI _ _ _ hi (toI t1)) (hR _ _ _ _ hr t1)) ?_
    have close : ∀ (jump : Option Code) (W3 : World), KeepsOthers (W.putObj (D + 1) (.loop (book .busy none))) W3 →
        ∃ W4, (Instr.endRound (D + 1) jump).run P W3 = .ok (.bool jump.isNone) W4 ∧ Turn Odd D W3 W4 ∧ W4.heap[D + 1]? = some (.loop (book (if jump.isNone then .ready else .done) jump)) ∧ W4.heap[D]? = some (.deferred (some [])) := fun jump W3 hk3 => by
      have l3 := hk3.same _ _ l1 rfl
      have k3 := hk3.same _ _ k1 rfl
      obtain ⟨t4, l4, k4⟩ := step W3 .busy (if jump.isNone then .ready else .done) none jump l3 k3
      have he := run_endRound (P := P) jump l3
      rw [show ({ book .busy none with state := if jump.isNone then .ready else .done, pending := jump } : Loop) = book (if jump.isNone then .ready else .done) jump by rw [hbook, hbook]] at he
      exact ⟨_, he, t4, l4, k4⟩
    have leave : ∀ (c : Code) (W3 : World), KeepsOthers (W.putObj (D + 1) (.loop (book .busy none))) W3 → Ix c (pre ++ [x]) W3 → ∃ v W4, (Instr.endRound (D + 1) (some c)).run P W3 = .ok v W4 ∧
        ((Ending.returned v = .returned (.bool true) ∧ (I (pre ++ [x]) W4 ∧ W4.heap[D + 1]? = some (.loop (book .ready none)) ∧ W4.heap[D]? = some (.deferred (some []))) ∧ Kp W W4) ∨ (Ending.returned v = .returned (.bool false) ∧ (∃ c, Ix c (pre ++ [x]) W4 ∧ W4.heap[D + 1]? = some (.loop (book .done (some c))) ∧ W4.heap[D]? = some (.deferred (some []))) ∧ Below n₀ W W4)) := fun c W3 hk3 hx => by
      obtain ⟨W4, he, t4, l4, k4⟩ := close (some c) W3 hk3
      have hx4 := hIx _ _ _ _ hx (toI t4)
      have b0 := hBi _ _ hi
      have b4 := hBx _ _ _ hx4
      exact ⟨_, W4, he, .inr ⟨rfl, ⟨c, hx4, l4, k4⟩, b4.os.trans b0.os.symm, b4.tape.trans b0.tape.symm, b4.output.trans b0.output.symm, Nat.le_trans t1.size (Nat.le_trans hk3.size t4.size), fun k hk => (b4.block k hk).trans (b0.block k hk).symm⟩⟩
    rintro e a3 W3 hp
    cases e with
    | normal =>
      obtain ⟨hk3, hkp, hi3⟩ := hp
      obtain ⟨W4, he, t4, l4, k4⟩ := close none W3 hk3
      exact ⟨_, W4, he, .inl ⟨rfl, ⟨hI _ _ _ hi3 (toI t4), l4, k4⟩, hKt (hKt (hKb t1) hkp) (hKb t4)⟩⟩
    | ret => exact leave .ret W3 hp.1 hp.2
    | exit id => exact leave (.exit id) W3 hp.1 hp.2
    | goto t => exact leave (.goto t) W3 hp.1 hp.2
    | panic ch => exact hp.elim
    | outgrown => exact hp.elim
  · rintro e W2 ⟨⟨v, rfl⟩, (⟨xs, hS, hi, hl, hk⟩ | ⟨pre, hSp, c, hi, hl, hk⟩)⟩
    · obtain ⟨t4, l4, k4⟩ := step W2 .ready .exhausted none none hl hk
      have he := run_endLoop (P := P) hl (by rw [hbook]; simp)
      rw [show ({ book .ready none with state := .exhausted } : Loop) = book .exhausted none by rw [hbook, hbook], show (book .ready none).pending = none by rw [hbook]] at he
      exact ⟨none, _, he, hdone D xs _ (Nat.le_refl _) hS (hI _ _ _ hi (toI t4)) k4⟩
    · obtain ⟨t4, l4, k4⟩ := step W2 .done .exhausted (some c) (some c) hl hk
      have he := run_endLoop (P := P) hl (by rw [hbook]; simp)
      rw [show ({ book .done (some c) with state := .exhausted } : Loop) = book .exhausted (some c) by rw [hbook, hbook], show (book .done (some c)).pending = some c by rw [hbook]] at he
      exact ⟨some c, _, he, hstop D c pre _ (Nat.le_refl _) hSp (hIx _ _ _ _ hi (toI t4)) k4⟩
end Go.Proofs.YtkhhiddemihnbaaDoor
