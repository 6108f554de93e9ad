/- Contracts of blame: walk at a sentinel and at a Blame. -/
import Derived.Test.YtkhhiddemihnbaaDoorKb
import Derived.RangeFuncNested
import Derived.RangeFuncBound
import Derived.RangeFuncCalls
import Derived.Shelf.Abstract
import Derived.OwnWalkIn
import Derived.TacticsInMore
import Derived.Deep.RegionHeldLaw
import Derived.Outline
namespace Go.Proofs.YtkhhiddemihnbaaDoor
open Go.RowKit Go.Shelf
section
attribute [local go_sem] Oper.semAt_some
theorem noBlame (v : Value) (xT : TypeId) (w : World) : (Instr.typeAssert (.iface 163 v) xT 103 true).run Tryd.prog w = .ok (.tuple #[.pointer none, .bool false]) w := by kernel_rfl
theorem noSeveral (v : Value) (xT : TypeId) (w : World) : (Instr.typeAssert (.iface 163 v) xT 109 true).run Tryd.prog w = .ok (.tuple #[.pointer none, .bool false]) w := by kernel_rfl
theorem isBlameT (v : Value) (xT : TypeId) (w : World) : (Instr.typeAssert (.iface 103 v) xT 103 true).run Tryd.prog w = .ok (.tuple #[v, .bool true]) w := by kernel_rfl
set_option maxRecDepth 100000 in
set_option maxHeartbeats 2000000 in
theorem walk_leaf (l : Nat) (a : Addr) (tr : Value) (n : Nat) (W : World) (R : Ending → World → Prop)
    (hY : YieldAt Fence.wide n Tryd.prog l #[tr, .iface 163 (.pointer (some a))] W fun e W' => (∃ b : Bool, e = .returned (.bool b)) ∧ R e W') :
    Calls Tryd.prog 51 #[tr, .iface 163 (.pointer (some a)), .func (.yield l) #[] #[]] W R := by
  have n1 := noBlame (.pointer (some a)) 42 W
  have n2 := noSeveral (.pointer (some a)) 42 W
  obtain ⟨fn, tmps, assign, body, hy, hR⟩ := hY
  refine callsIn_wide (n := n + 1) |>.1 ?_
  refine callsIn_of_wp Tryd.func51 rfl trivial ?_ rfl
  simp only [Tryd.ntmps51, List.size_toArray, List.length_cons, List.length_nil, Nat.reduceAdd, Nat.reduceSub, Array.replicate_succ, Array.replicate_zero, List.push_toArray, List.append_toArray, List.nil_append, List.cons_append]
  gi_wp2_with ((try refine ⟨fun h => (by cases h), ?_⟩); refine hR.mono ?_; clear hR; rintro e W2 ⟨⟨b, rfl⟩, hb⟩)
  exact hb
end
/-- append of one text, at a step of a region that draws its order. -/
theorem step_trail {ops : Array Oper} {o : Oper} {a : Act} {K : Act → World → Prop} {Q : Exit → Act → World → Prop} {E : Prop} (w : World) (hw : Region.wanted o (yielded ops a.tmps) = true) (s x : Operand)
    (ho : o.op = .call { callee := .builtin .append, args := #[s, x], argTypes := #[84, 84] })
    (B : Nat) (v : Value) (ts : List ByteArray) (hs : a.eval s = v) (h : Trail B w v ts) (g : Nat) (t : ByteArray) (hx : a.eval x = .slice (some ⟨g, 0, none⟩) 1 1) (hg : w.cell? ⟨g, 0, none⟩ = some (.string t)) (hl : ts.length ≤ 1000) (hB : B ≤ w.heap.size)
    (hK : ∀ v' w', Hid (Trail B w' v' (ts ++ [t])) → Hid (Olds B ts.length w w') → Hid (Turn isRow B w w') → K (a.put o.dst v') w') :
    if Region.wanted o (yielded ops a.tmps) = true then Oper.wp Tryd.prog o a w K Q else E := by
  rw [if_pos hw]
  obtain ⟨v', w', hr, h2, h3, h4⟩ := run_trail w o.type B v ts h g t hg hl hB
  unfold Oper.wp execOp
  simp only [ho, resolve, invoke, builtin, Sem.run_bind, Sem.run_pure, Result.andThen_ok, List.map_toArray, List.map_cons, List.map_nil, hs, hx, hr]
  exact hK v' w' h2 h3 h4
theorem new_cell (w : World) (x : Value) (e : TypeId) : (w.alloc (.cells #[x] e)).cell? ⟨w.heap.size, 0, none⟩ = some x := by
  have h := heap_alloc_new w (.cells #[x] e)
  unfold World.cell?; rw [show (⟨w.heap.size, 0, none⟩ : Addr).block = w.heap.size from rfl, h]; rfl
theorem Turn.cell {P : Obj → Prop} {B : Nat} {w w' : World} (h : Turn P B w w') {p : Addr} {x : Value} (hc : w.cell? p = some x) (hp : p.block < B) : w'.cell? p = some x := by
  have hlt := World.block_lt_of_cell? w p hc
  have hb := h.block p.block _ (Array.getElem?_eq_getElem hlt) (.inl hp)
  rw [World.cell?_of_block (w := w) (hb.trans (Array.getElem?_eq_getElem hlt).symm)]; exact hc
set_option maxRecDepth 100000 in
set_option maxHeartbeats 2000000 in
theorem walk_blame (l b B n₀ : Nat) (s : ByteArray) (inner : Value) (W : World) (tv : Value) (ts : List ByteArray) (Post : Bool → World → Prop)
    (hbn : b < n₀) (hnB : n₀ ≤ B) (hB : B ≤ W.heap.size) (hl : ts.length ≤ 1000)
    (c0 : W.cell? ⟨b, 0, none⟩ = some (.string s)) (c1 : W.cell? ⟨b, 1, none⟩ = some inner) (ht : Trail B W tv ts)
    (hin : ∀ v2 w2, Trail B w2 v2 (ts ++ [s]) → Olds B ts.length W w2 → Turn isRow B W w2 → Calls Tryd.prog 51 #[v2, inner, .func (.yield l) #[] #[]] w2 fun e w3 => ∃ r, e = .returned (.bool r) ∧ Below n₀ W w3 ∧ Post r w3) :
    Calls Tryd.prog 51 #[tv, .iface 103 (.pointer (some ⟨b, 0, none⟩)), .func (.yield l) #[] #[]] W fun e w3 => ∃ r, e = .returned (.bool r) ∧ Below n₀ W w3 ∧ Post r w3 := by
  have hbB : b < B := by omega
  have n1 := isBlameT (.pointer (some ⟨b, 0, none⟩)) 42 W
  have HI := hid hin
  have hbl : Below W.heap.size W (W.drew.alloc (.cells #[.string s] 9)) := (Below.refl _ _).drew.alloc (Nat.le_refl _) _
  have T1 := hid (ht.grown hbl)
  have O1 := hid (show Olds B ts.length W (W.drew.alloc (.cells #[.string s] 9)) from fun u ys hu _ => hu.grown hbl)
  have U1 := hid (show Turn isRow B W (W.drew.alloc (.cells #[.string s] 9)) from Turn.of_below hbl)
  have N1 := hid (new_cell W.drew (.string s) 9)
  have HC := hid (fun w2 (h : Turn isRow B W w2) => show w2.cell? ⟨b, 0, none⟩ = some (.string s) ∧ w2.cell? ⟨b, 1, none⟩ = some inner from ⟨h.cell (p := ⟨b, 0, none⟩) c0 hbB, h.cell (p := ⟨b, 1, none⟩) c1 hbB⟩)
  have HD := hid (fun w2 (h : Below n₀ W w2) => show w2.cell? ⟨b, 0, none⟩ = some (.string s) ∧ w2.cell? ⟨b, 1, none⟩ = some inner from ⟨(h.cell (p := ⟨b, 0, none⟩) hbn).trans c0, (h.cell (p := ⟨b, 1, none⟩) hbn).trans c1⟩)
  clear hin ht hbl
  go_enter Tryd.func51, Tryd.ntmps51
  go_wp2
  go_region_held_law (fun w' => w'.cell? ⟨b, 0, none⟩ = some (.string s) ∧ w'.cell? ⟨b, 1, none⟩ = some inner) (first | assumption | go_keep)
    (first
      | (refine step_trail _ (by rfl) (.tmp 20) (.tmp 25) rfl B tv ts rfl ?_ W.heap.size s rfl ?_ hl ?_ ?_; exact T1.out; exact N1.out; exact Nat.le_trans hB (by simp); intro v2 w2 t2 o2 u2; have hS := HC.out w2 (U1.out.trans u2.out); have IH := hid (HI.out v2 w2 t2.out (fun u ys hu hc => o2.out u ys (O1.out u ys hu hc) hc) (U1.out.trans u2.out)))
      | (go_at_call 51; refine IH.out.mono ?_; rintro e w3 ⟨r, rfl, hb3, hp⟩; have hS3 := HD.out w3 hb3; have HP := hid (And.intro hb3 hp); clear hp hb3))
  go_wp2
  go_ret
  exact ⟨r, rfl, HP.out.1, HP.out.2⟩
/-- A sentinel inside Blames. -/
def Ch (Ad : Nat → Addr) (n₀ : Nat) (W : World) (k : Nat) : List ByteArray → Value → Prop
  | [], v => v = .iface 163 (.pointer (some (Ad k)))
  | s :: ws, v => ∃ b inner, v = .iface 103 (.pointer (some ⟨b, 0, none⟩)) ∧ b < n₀ ∧ W.cell? ⟨b, 0, none⟩ = some (.string s) ∧ W.cell? ⟨b, 1, none⟩ = some inner ∧ Ch Ad n₀ W k ws inner
theorem Ch.below {Ad : Nat → Addr} {n₀ k : Nat} {W W' : World} (h : Below n₀ W W') : ∀ {ws : List ByteArray} {v : Value}, Ch Ad n₀ W k ws v → Ch Ad n₀ W' k ws v
  | [], _, hc => hc
  | _ :: _, _, ⟨b, inner, hv, hb, c0, c1, hi⟩ => ⟨b, inner, hv, hb, (h.cell (p := ⟨b, 0, none⟩) hb).trans c0, (h.cell (p := ⟨b, 1, none⟩) hb).trans c1, Ch.below h hi⟩
theorem Ch.wider {Ad : Nat → Addr} {n₀ n₁ k : Nat} {W : World} (h : n₀ ≤ n₁) : ∀ {ws : List ByteArray} {v : Value}, Ch Ad n₀ W k ws v → Ch Ad n₁ W k ws v
  | [], _, hc => hc
  | _ :: _, _, ⟨b, inner, hv, hb, c0, c1, hi⟩ => ⟨b, inner, hv, by omega, c0, c1, Ch.wider h hi⟩
/-- What a round is handed: the trail as it lies, what it says, the number of the sentinel. -/
structure Lf where
  tv : Value
  ts : List ByteArray
  k : Nat
def encs (Ad : Nat → Addr) (x : Lf) : Array Value := #[x.tv, .iface 163 (.pointer (some (Ad x.k)))]
def Lf.pair (x : Lf) : List ByteArray × Nat := (x.ts, x.k)
def Handed (B : Nat) (full : List (List ByteArray × Nat)) (pre : List Lf) (x : Lf) (W : World) : Prop := Trail B W x.tv x.ts ∧ 1 ≤ x.k ∧ x.k ≤ 18 ∧ pre.map Lf.pair ++ [x.pair] <+: full
def isErr (o : Obj) : Prop := ∃ cur, o = .cells cur 42 (0, 0)
/-- What a round may do: rows of texts and of errors lie as they lay. -/
def Kp (n₀ : Nat) (A B : World) : Prop := Turn (fun o => ¬ isKept o) n₀ A B
/-- The word of yield. -/
def Yields (Ad : Nat → Addr) (l B n₀ : Nat) (full : List (List ByteArray × Nat)) (J Jx : List Lf → World → Prop) : Prop := ∀ n pre x W, J pre W → Handed B full pre x W → YieldAt Fence.wide n Tryd.prog l (encs Ad x) W fun e W' =>
  (e = .returned (.bool true) ∧ J (pre ++ [x]) W' ∧ Kp n₀ W W') ∨ (e = .returned (.bool false) ∧ Jx (pre ++ [x]) W' ∧ Below n₀ W W')
/-- The walk goes on, or has been left. -/
def Went (B n₀ : Nat) (J Jx : List Lf → World → Prop) (m : Nat) (pre : List Lf) (ls : List (List ByteArray × Nat)) (W : World) (r : Bool) (W' : World) : Prop :=
  (r = true → (∃ xs, xs.map Lf.pair = ls ∧ J (pre ++ xs) W') ∧ Olds B m W W' ∧ Turn (fun o => ¬ isErr o) n₀ W W') ∧
  (r = false → ∃ xs, xs.map Lf.pair <+: ls ∧ Jx (pre ++ xs) W')
theorem kept_err (o : Obj) (h : ¬ isKept o) : ¬ isErr o := fun ⟨cur, e⟩ => h ⟨cur, .inr e⟩
theorem row_err (o : Obj) (h : isRow o) : ¬ isErr o := fun ⟨cur, e⟩ => by obtain ⟨c, rfl⟩ := h; cases e
theorem wideN {m : Nat} (m' : Nat) {l : Nat} {args : Array Value} {W : World} {R : Ending → World → Prop} (h : YieldAt Fence.wide m Tryd.prog l args W R) : YieldAt Fence.wide m' Tryd.prog l args W R := by
  obtain ⟨fn, tmps, assign, body, hy, hR⟩ := h
  exact ⟨fn, tmps, assign, body, hy, hR.1, fun c cs _ => hR.2 c cs (fun d h => by cases h)⟩
theorem walk_chain (Ad : Nat → Addr) (l B n₀ : Nat) (full : List (List ByteArray × Nat)) (J Jx : List Lf → World → Prop) (hJ : ∀ s A A', J s A → Turn isRow B A A' → J s A') (hY : Yields Ad l B n₀ full J Jx) (hnB : n₀ ≤ B) (k : Nat) (hk : 1 ≤ k ∧ k ≤ 18) :
    ∀ (ws : List ByteArray) (v tv : Value) (ts : List ByteArray) (pre : List Lf) (W : World), Ch Ad n₀ W k ws v → Trail B W tv ts → J pre W → ts.length + ws.length ≤ 1000 → B ≤ W.heap.size → pre.map Lf.pair ++ [(ts ++ ws, k)] <+: full →
      Calls Tryd.prog 51 #[tv, v, .func (.yield l) #[] #[]] W fun e w3 => ∃ r, e = .returned (.bool r) ∧ Below n₀ W w3 ∧ Went B n₀ J Jx ts.length pre [(ts ++ ws, k)] W r w3 := by
  intro ws
  induction ws with
  | nil =>
    intro v tv ts pre W hc ht hj hl hB hg
    rw [List.append_nil] at hg
    obtain rfl : v = .iface 163 (.pointer (some (Ad k))) := hc
    obtain ⟨fn, tmps, assign, body, hy, hR⟩ := hY 0 pre ⟨tv, ts, k⟩ W hj ⟨ht, hk.1, hk.2, hg⟩
    refine walk_leaf l (Ad k) tv 0 W _ ⟨fn, tmps, assign, body, hy, hR.mono ?_⟩
    rintro e w3 (⟨rfl, hj3, hkp⟩ | ⟨rfl, hx3, hb⟩)
    · refine ⟨⟨_, rfl⟩, true, rfl, Turn.below hkp (by omega), fun _ => ⟨⟨[⟨tv, ts, k⟩], by simp [Lf.pair], hj3⟩, fun u ys hu _ => hu.kept hkp, Turn.mono hkp kept_err (Nat.le_refl _)⟩, fun h => (by cases h)⟩
    · exact ⟨⟨_, rfl⟩, false, rfl, hb, ⟨fun h => (by cases h), fun _ => ⟨[⟨tv, ts, k⟩], by simp [Lf.pair], hx3⟩⟩⟩
  | cons s ws ih =>
    intro v tv ts pre W hc ht hj hl hB hg
    obtain ⟨b, inner, rfl, hb, c0, c1, hi⟩ := hc
    simp only [List.length_cons] at hl
    refine walk_blame l b B n₀ s inner W tv ts _ hb hnB hB (by omega) c0 c1 ht ?_
    intro v2 w2 t2 o2 u2
    have hb2 : Below n₀ W w2 := (u2.mono (fun _ h => h) hnB).below (by omega)
    refine (ih inner v2 (ts ++ [s]) pre w2 (hi.below hb2) t2 (hJ _ _ _ hj u2) (by simp; omega) (Nat.le_trans hB u2.size) (by simpa using hg)).mono ?_
    rintro e w3 ⟨r, rfl, hb3, hg, hx⟩
    refine ⟨r, rfl, hb2.trans hb3, fun h => ?_, fun h => ?_⟩
    · obtain ⟨hj3, ho3, ht3⟩ := hg h
      refine ⟨by simpa using hj3, fun u ys hu hle => ho3 u ys (o2 u ys hu hle) (by simp; omega), (u2.mono row_err hnB).trans ht3⟩
    · simpa using hx h
end Go.Proofs.YtkhhiddemihnbaaDoor
