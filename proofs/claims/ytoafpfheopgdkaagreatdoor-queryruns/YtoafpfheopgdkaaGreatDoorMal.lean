/- Texts in one. -/
import Derived.Deep.RegionHeld3
import Derived.Deep.DrawnRows
import Derived.Deep.RegionLaw
import Derived.Deep.RegionHeldLaw
import Derived.Deep.AppendLies
import Derived.Sort.OwnSortedInts
import Derived.Deep.LoopGhost
import Derived.Deep.CutBlock
import Derived.Lib.SlKeysI
import Derived.Test.YtoafpfheopgdkaaGreatDoorMak
namespace Go.Proofs.YtoafpfheopgdkaaGreatDoor.Qu
open Go.RowKit Go.Shelf Go.Maps
open Go.Proofs.YtoafpfheopgdkaaGreatDoor.At (St bAl cell_blk blk_seen blk_free an wi pow32 bits_or32 bits_and32 within_nat cast_beq0 wi_lt)
open Go.Proofs.YtoafpfheopgdkaaGreatDoor.Sc (Cmp CmpRow kindM orI rollback_any)
/-- The rolled back components below k. -/
def rolN (cs : List Cmp) : Nat → Nat
  | 0 => 0
  | k + 1 => match cs[k]? with | some c => if c.rb == true then wi (rolN cs k) k else rolN cs k | none => rolN cs k
theorem rolN_lt (cs : List Cmp) : ∀ k, k ≤ 32 → rolN cs k < 4294967296
  | 0, _ => by simp [rolN]
  | k + 1, h => by
    have ih := rolN_lt cs k (by omega)
    unfold rolN
    split
    · split
      · exact wi_lt (n := 32) ih (by omega)
      · exact ih
    · exact ih
theorem kind_nat (cs : List Cmp) : ∀ k, k ≤ 32 → kindM cs true k = ((rolN cs k : Nat) : Int)
  | 0, _ => by simp [rolN, kindM]
  | k + 1, h => by
    have ih := kind_nat cs k (by omega)
    simp only [kindM, rolN]
    cases cs[k]? with
    | none => exact ih
    | some c =>
      simp only
      by_cases hq : (c.rb == true) = true
      · rw [if_pos hq, if_pos hq, ih]
        show bits .or .u32 ((rolN cs k : Nat) : Int) (At.bitI ((k : Nat) : Int)) = _
        rw [At.bitI_in k (by omega), bits_or32 _ _ (rolN_lt cs k (by omega)) (pow32 (by omega))]
        rfl
      · rw [if_neg hq, if_neg hq]
        exact ih
/-- All rolled back components of a schema. -/
def rolA (cs : List Cmp) : Nat := rolN cs (min cs.length 32)
theorem rolA_lt (cs : List Cmp) : rolA cs < 4294967296 := rolN_lt cs _ (Nat.min_le_right _ _)
def bWith : ByteArray := ⟨#[119, 105, 116, 104]⟩
def bWithout : ByteArray := ⟨#[119, 105, 116, 104, 111, 117, 116]⟩
def bChanged : ByteArray := ⟨#[99, 104, 97, 110, 103, 101, 100]⟩
/-- A thing that is wrong, unless it holds. -/
def qL (q : Bool) (s : ByteArray) (k : Nat) : List (List ByteArray × Nat) := if q then [] else [([s], k)]
/-- What is wrong with a filter, where r are rolled back. -/
def qcheckL (r a b c : Nat) : List (List ByteArray × Nat) := qL (decide (an a r = 0)) bWith 1 ++ qL (decide (an b r = 0)) bWithout 1 ++ qL (decide (an c r = 0)) bChanged 1 ++ qL (decide (a &&& b = 0)) bWithout 9 ++ qL (decide (an c a = 0)) bChanged 7
theorem qL_len (q : Bool) (s : ByteArray) (k : Nat) : (qL q s k).length ≤ 1 := by unfold qL; split <;> simp
set_option maxHeartbeats 800000 in
theorem unless_any (Ad : Nat → Addr) (q : Bool) (s : ByteArray) (k : Nat) (hk : 1 ≤ k ∧ k ≤ 18) (w : World) :
    Calls Tryz.prog 46 #[.bool q, .string s, .iface 262 (.pointer (some (Ad k)))] w fun e w' => ∃ v, e = .returned v ∧ Top Ad w'.heap.size w' 1 v (qL q s k) ∧ Below w.heap.size w w' := by
  cases q with
  | true =>
    go_enter Tryz.func46, Tryz.ntmps46
    go_wp2_with fail
    go_ret
    exact ⟨_, rfl, Top.empty, Below.refl _ _⟩
  | false =>
    have C := hid (at_chain Ad s 0 _ ([], k) w (show Chn Ad w.heap.size w 0 (.iface 262 (.pointer (some (Ad k)))) ([], k) from ⟨rfl, hk.1, hk.2, Nat.le_refl _⟩))
    go_enter Tryz.func46, Tryz.ntmps46
    go_wp2_with fail
    refine C.out.mono ?_
    rintro e w1 ⟨v1, rfl, h1, hb1⟩
    have H1 := hid h1
    have B1 := hid hb1
    obtain ⟨t, p, rfl, -⟩ := h1.1.shape
    clear C h1 hb1
    go_wp2_with fail
    go_ret
    exact ⟨_, rfl, Top.one _ _ H1.out, B1.out⟩
theorem top_shape {Ad : Nat → Addr} {n d : Nat} {W : World} {v : Value} {ls : List (List ByteArray × Nat)} (h : Top Ad n W d v ls) : v.cells = #[v] := by
  rcases h with ⟨rfl, -⟩ | ⟨p, -, h⟩ | ⟨b, vs, rfl, -, -⟩
  · rfl
  · obtain ⟨t, q, rfl, -⟩ := h.1.shape
    rfl
  · rfl
/-- Where Check is: the filter's cells, the sentinels, the errors so far. -/
structure Ck (Ad : Nat → Addr) (w0 : World) (g a b c : Nat) (vs : List (Value × List (List ByteArray × Nat))) (wc : World) : Prop where
  env : Env wc Ad
  f0 : wc.cell? ⟨g, 0, none⟩ = some (.int .u32 (a : Int))
  f1 : wc.cell? ⟨g, 1, none⟩ = some (.int .u32 (b : Int))
  f2 : wc.cell? ⟨g, 2, none⟩ = some (.int .u32 (c : Int))
  bel : Below w0.heap.size w0 wc
  one : ∀ u ∈ vs, Top Ad wc.heap.size wc 1 u.1 u.2
  few : ∀ u ∈ vs, u.2.length ≤ 1
section
variable {Ad : Nat → Addr} {w0 wc w1 : World} {g a b c : Nat} {vs : List (Value × List (List ByteArray × Nat))}
theorem Ck.later (h : Ck Ad w0 g a b c vs wc) (hb : Below wc.heap.size wc w1) : Ck Ad w0 g a b c vs w1 :=
  ⟨h.env.later hb, At.seen hb (Nat.le_refl _) h.f0, At.seen hb (Nat.le_refl _) h.f1, At.seen hb (Nat.le_refl _) h.f2, h.bel.trans (hb.mono h.bel.size), fun u hu => (h.one u hu).move hb hb.size, h.few⟩
theorem Ck.push {v : Value} {L : List (List ByteArray × Nat)} (h : Ck Ad w0 g a b c vs wc) (hb : Below wc.heap.size wc w1) (ho : Top Ad w1.heap.size w1 1 v L) (hL : L.length ≤ 1) : Ck Ad w0 g a b c (vs ++ [(v, L)]) w1 :=
  have k := h.later hb
  ⟨k.env, k.f0, k.f1, k.f2, k.bel, fun u hu => by
    rcases List.mem_append.1 hu with hu | hu
    · exact k.one u hu
    · simp at hu; subst hu; exact ho, fun u hu => by
    rcases List.mem_append.1 hu with hu | hu
    · exact k.few u hu
    · simp at hu; subst hu; exact hL⟩
theorem Ck.drew (h : Ck Ad w0 g a b c vs wc) : Ck Ad w0 g a b c vs wc.drew := h.later ⟨rfl, rfl, rfl, Nat.le_refl _, fun _ _ => rfl⟩
theorem Ck.cells (h : Ck Ad w0 g a b c vs wc) : wc.cell? ⟨g, 0, none⟩ = some (.int .u32 (a : Int)) ∧ wc.cell? ⟨g, 1, none⟩ = some (.int .u32 (b : Int)) ∧ wc.cell? ⟨g, 2, none⟩ = some (.int .u32 (c : Int)) ∧ wc.cell? ⟨1, 0, none⟩ = some (.iface 262 (.pointer (some (Ad 1)))) ∧ wc.cell? ⟨2, 0, none⟩ = some (.iface 262 (.pointer (some (Ad 9)))) ∧ wc.cell? ⟨3, 0, none⟩ = some (.iface 262 (.pointer (some (Ad 7)))) :=
  ⟨h.f0, h.f1, h.f2, h.env.cell 1 (by decide) (by decide), h.env.cell 9 (by decide) (by decide), h.env.cell 7 (by decide) (by decide)⟩
theorem flat_few : ∀ (us : List (Value × List (List ByteArray × Nat))), (∀ u ∈ us, u.2.length ≤ 1) → (us.map Prod.snd).flatten.length ≤ us.length
  | [], _ => by simp
  | u :: us, h => by
    have h1 := h u (List.mem_cons_self ..)
    have h2 := flat_few us fun x hx => h x (List.mem_cons_of_mem _ hx)
    simp only [List.map_cons, List.flatten_cons, List.length_append, List.length_cons]
    omega
/-- What All answers of five. -/
theorem all_five (h : Ck Ad w0 g a b c vs wc) {v1 v2 v3 v4 v5 : Value} (hvs : vs.map Prod.fst = [v1, v2, v3, v4, v5]) :
    Calls Tryz.prog 38 #[.slice (some ⟨wc.heap.size, 0, none⟩) 5 5] (wc.alloc (.cells #[v1, v2, v3, v4, v5] 46)) fun e w' => ∃ v', e = .returned v' ∧ Top Ad w'.heap.size w' 1 v' (vs.map Prod.snd).flatten ∧ Ck Ad w0 g a b c [] w' := by
  have b1 := bAl wc (.cells #[v1, v2, v3, v4, v5] 46)
  have r1 := heap_alloc_new wc (.cells #[v1, v2, v3, v4, v5] 46)
  have hs : wc.heap.size < (wc.alloc (.cells #[v1, v2, v3, v4, v5] 46)).heap.size := by simp
  have hvl : vs.length = 5 := by have := congrArg List.length hvs; simpa using this
  have T := all_top Ad 1 (.slice (some ⟨wc.heap.size, 0, none⟩) 5 5) vs (wc.alloc (.cells #[v1, v2, v3, v4, v5] 46)) ⟨_, _, by rw [hvs]; rfl, .inr ⟨wc.heap.size, hs, rfl, fun j x hj => by
      rw [hvs] at hj
      refine cell_blk r1 ?_
      rw [← Array.getElem?_toList]
      exact hj⟩⟩ (fun u hu => (h.one u hu).move b1 b1.size) (by omega) (by have := flat_few vs h.few; omega)
  refine T.mono ?_
  rintro e w' ⟨v', rfl, q1, q2⟩
  have k := (h.later b1).later q2
  exact ⟨v', rfl, q1, k.env, k.f0, k.f1, k.f2, k.bel, fun u hu => by simp at hu, fun u hu => by simp at hu⟩
end
set_option maxHeartbeats 4000000 in
set_option maxRecDepth 100000 in
theorem qcheck_any (Ad : Nat → Addr) (w : World) (va vb : Value) (hvb : ∃ a l c, vb = .slice a l c) (cs : List Cmp) (hE : Env w Ad) (hC : CmpRow w va cs) (hl : cs.length ≤ 1000) (a b c : Nat) (ha : a < 4294967296) (hb : b < 4294967296) (hc : c < 4294967296) :
    Calls Tryz.prog 22 #[.agg #[va, vb], .agg #[.int .u32 (a : Int), .int .u32 (b : Int), .int .u32 (c : Int)]] w fun e w' => ∃ v', e = .returned v' ∧ Top Ad w'.heap.size w' 1 v' (qcheckL (rolA cs) a b c) ∧ Below w.heap.size w w' := by
  obtain ⟨w1, hw1⟩ : ∃ w1, w1 = (w.alloc (.cells #[va, vb] 52)).alloc (.cells #[.int .u32 (a : Int), .int .u32 (b : Int), .int .u32 (c : Int)] 26) := ⟨_, rfl⟩
  have b0 := bAl w (.cells #[va, vb] 52)
  have b1' := bAl (w.alloc (.cells #[va, vb] 52)) (.cells #[.int .u32 (a : Int), .int .u32 (b : Int), .int .u32 (c : Int)] 26)
  have b1 : Below w.heap.size w w1 := by rw [hw1]; exact b0.trans (b1'.mono b0.size)
  have r0 : w1.heap[w.heap.size]? = some (.cells #[va, vb] 52 (0, 0)) := by rw [hw1]; exact blk_seen b1' (Nat.le_refl _) (heap_alloc_new w _)
  have r1 : w1.heap[w.heap.size + 1]? = some (.cells #[.int .u32 (a : Int), .int .u32 (b : Int), .int .u32 (c : Int)] 26 (0, 0)) := by
    have := heap_alloc_new (w.alloc (.cells #[va, vb] 52)) (.cells #[.int .u32 (a : Int), .int .u32 (b : Int), .int .u32 (c : Int)] 26)
    rw [hw1]; simpa using this
  have RB := hid (rollback_any w1 va vb hvb cs (hC.later b1) hl)
  rw [kind_nat cs _ (Nat.min_le_right _ _)] at RB
  have x0 : w1.cell? ⟨w.heap.size, 0, none⟩ = some va := cell_blk r0 rfl
  have x1 : w1.cell? ⟨w.heap.size, 1, none⟩ = some vb := cell_blk r0 rfl
  have HR : Hid (rolN cs (min cs.length 32) < 4294967296) := rolA_lt cs
  have RE : Hid (rolA cs = rolN cs (min cs.length 32)) := rfl
  have HW1 := hid hw1
  have B1 := hid b1
  have R1 := hid r1
  have E1 := hid (hE.later b1)
  obtain ⟨sa, sc, rfl, -, -⟩ := hC
  obtain ⟨ta, tl, tc, rfl⟩ := hvb
  clear hw1 b1 r1 b0 b1' r0 hE
  generalize rolN cs (min cs.length 32) = r at *
  go_enter Tryz.func22, Tryz.ntmps22
  go_upto_region 1 with fail
  rw [← HW1.out]
  go_wp2_with fail
  refine RB.out.mono ?_
  rintro e w2 ⟨rfl, hb2⟩
  have B2 := hid hb2
  have KK : Hid (Ck Ad w (w.heap.size + 1) a b c [] w2) := by
    have q := blk_seen hb2 (Nat.le_refl _) R1.out
    exact ⟨E1.out.later hb2, cell_blk q rfl, cell_blk q rfl, cell_blk q rfl, B1.out.trans (hb2.mono B1.out.size), fun u hu => by simp at hu, fun u hu => by simp at hu⟩
  have WI : Hid (∀ (m n : Nat), m < 4294967296 → n < 4294967296 → ∀ W : World, Calls Tryz.prog 47 #[.int .u32 (m : Int), .int .u32 (n : Int)] W fun e W' => e = .returned (.bool (decide (an m n = 0))) ∧ W' = W) := fun m n hm hn W => within_nat m n hm hn W
  have hr := HR.out
  clear RB hb2 x0 x1 HW1 E1 R1 HR
  generalize w.heap.size + 1 = g6 at *
  have k6 := KK.out
  have k6d := k6.drew
  obtain ⟨c0, c1, c2, c3, c4, c5⟩ := k6.cells
  go_upto_region 2 with fail
  go_region_held3 (fun W => W.cell? ⟨g6, 0, none⟩ = some (.int .u32 (a : Int)) ∧ W.cell? ⟨g6, 1, none⟩ = some (.int .u32 (b : Int)) ∧ W.cell? ⟨g6, 2, none⟩ = some (.int .u32 (c : Int)) ∧ W.cell? ⟨1, 0, none⟩ = some (.iface 262 (.pointer (some (Ad 1)))) ∧ W.cell? ⟨2, 0, none⟩ = some (.iface 262 (.pointer (some (Ad 9)))) ∧ W.cell? ⟨3, 0, none⟩ = some (.iface 262 (.pointer (some (Ad 7))))) (first | go_keep | (exact Ck.cells (by assumption))) (first
    | (go_at_call 47; refine (WI.out _ _ (by assumption) (by assumption) _).mono ?_; rintro e w7 ⟨rfl, hw7⟩; obtain rfl := hw7.symm)
    | (go_at_call 46; refine (unless_any Ad _ _ _ (by decide) _).mono ?_; rintro e w8 ⟨v8, rfl, o8, hb8⟩; have h8 := Ck.push (by assumption) hb8 o8 (qL_len _ _ _); have s8 := top_shape o8; unfold Value.cells at s8)
    | (go_at_call 38; refine (all_five (by assumption) (by rfl)).mono ?_; rintro e w9 ⟨v9, rfl, o9, h9⟩))
  have E4 : (bits .and .u32 (a : Int) (b : Int) == 0) = decide (a &&& b = 0) := by rw [bits_and32 a b ha hb, cast_beq0]
  have O9 : Hid (Top Ad w9.heap.size w9 1 v9 (qcheckL (rolA cs) a b c)) := by
    have q := o9
    simp only [List.nil_append, List.cons_append, List.map_cons, List.map_nil, List.flatten_cons, List.flatten_nil, List.append_nil] at q
    show Top _ _ _ _ _ _
    unfold qcheckL
    rw [RE.out, ← E4]
    simp only [List.append_assoc]
    exact q
  have B9 := hid h9.bel
  obtain ⟨t9, ht9⟩ : ∃ v', v' = v9 := ⟨_, rfl⟩
  clear o9 h9 h8 k6 k6d o8 hb8 E4
  go_wp2_with fail
  go_ret
  exact ⟨_, rfl, O9.out, B9.out⟩
end Go.Proofs.YtoafpfheopgdkaaGreatDoor.Qu
namespace Go.Proofs.YtoafpfheopgdkaaGreatDoor.Qu
open Go.RowKit Go.Shelf Go.Maps
open Go.Proofs.YtoafpfheopgdkaaGreatDoor.At (St bAl cell_blk blk_seen blk_free)
open Go.Proofs.YtoafpfheopgdkaaGreatDoor.Sc (Cmp CmpRow)
theorem own_kept {B : Nat} {W W' : World} {ty : TypeId} {sz : Nat} {v : Value} {n : Nat} {l : List Value} {T : Nat → Prop} (h : W.ownsRow B ty sz v n l) (hs : St T W W') (hn : ∀ k, v.ownBlock = some k → ¬ T k) : W'.ownsRow B ty sz v n l :=
  ⟨h.1, h.2.elim .inl fun ⟨g, cap, cur, h1, h2, h3, h4⟩ => .inr ⟨g, cap, cur, h1, h2, hs.at h3 (hn g (by rw [h1]; rfl)), h4⟩⟩
theorem two_blk (W : World) (a b : Array Value) (e f : TypeId) : Below W.heap.size W ((W.alloc (.cells a e)).alloc (.cells b f)) ∧ ((W.alloc (.cells a e)).alloc (.cells b f)).heap[W.heap.size]? = some (.cells a e (0, 0)) ∧ ((W.alloc (.cells a e)).alloc (.cells b f)).heap[W.heap.size + 1]? = some (.cells b f (0, 0)) := by
  refine ⟨(bAl W _).alloc (by simp) _, (Below.heap_alloc _ _ _ (by simp)).trans (heap_alloc_new W _), ?_⟩
  have := heap_alloc_new (W.alloc (.cells a e)) (.cells b f)
  rw [World.size_alloc] at this
  exact this
theorem infoCmp : (Tryz.prog.info? 96).map (fun i => (i.zero, i.size, i.bytes)) = some (some (.agg #[.string ⟨#[]⟩, .int .i64 0, .bool false, .int .i64 0, .int .i64 0, .int .i64 0, .int .i64 0]), 7, 64) := by kernel_rfl
def cArr (c : Cmp) : List Value := [.string c.s, .int .i64 c.wd, .bool c.rb, .int .i64 c.d0, .int .i64 c.d1, .int .i64 c.d2, .int .i64 c.d3]
def cCells (l : List Cmp) : List Value := l.flatMap cArr
def Cmps (B : Nat) (W : World) (v : Value) (l : List Cmp) : Prop := W.ownsRow B 96 7 v l.length (cCells l)
theorem cCells_at : ∀ (l : List Cmp) (j : Nat) (c : Cmp), l[j]? = some c → ∀ i, i < 7 → (cCells l)[j * 7 + i]? = (cArr c)[i]? := by
  intro l
  induction l with
  | nil => intro j c h; simp at h
  | cons x l ih =>
    intro j c h i hi
    have e : cCells (x :: l) = cArr x ++ cCells l := by simp [cCells]
    have hx : (cArr x).length = 7 := rfl
    cases j with
    | zero =>
      simp at h
      subst h
      rw [e, Nat.zero_mul, Nat.zero_add, List.getElem?_append_left (by omega)]
    | succ j =>
      rw [e, List.getElem?_append_right (by omega), hx, show (j + 1) * 7 + i - 7 = j * 7 + i by omega]
      exact ih j c (by simpa using h) i hi
theorem Cmps.row {B : Nat} {W : World} {v : Value} {l : List Cmp} (h : Cmps B W v l) : CmpRow W v l := by
  rcases h.2 with ⟨rfl, h0⟩ | ⟨g, cap, cur, rfl, -, -, hc, -, -, -⟩
  · obtain rfl := List.length_eq_zero_iff.1 h0
    exact ⟨none, 0, rfl, Nat.le_refl _, .inl rfl⟩
  · refine ⟨_, cap, rfl, hc, .inr ⟨g, 0, rfl, fun j x hj => ?_⟩⟩
    have hj' := (List.getElem?_eq_some_iff.1 hj).1
    have A := cCells_at l j x hj
    have C : ∀ i, i < 7 → W.cell? ⟨g, j * 7 + i, none⟩ = (cArr x)[i]? := fun i hi => (World.ownsRow.cellAt h (j * 7 + i) (by omega)).trans (A i hi)
    rw [Nat.zero_add]
    exact ⟨C 0 (by decide), C 1 (by decide), C 2 (by decide), C 3 (by decide), C 4 (by decide), C 5 (by decide), C 6 (by decide)⟩
theorem step_cmp {ops : Array Oper} {o : Oper} {a : Act} {K : Act → World → Prop} {Q : Exit → Act → World → Prop} {E : Prop} (hgd : o.guard = none) (s x : Operand)
    (ho : o.op = .call { callee := .builtin .append, args := #[s, x], argTypes := #[49, 49] }) {B sb : Nat} {wc : World} {ov : Value} {l : List Cmp} {c : Cmp} (hown : Cmps B wc ov l) (hl : l.length ≤ 1000) (hB : B ≤ wc.heap.size)
    {cs : Array Value} (hbox : wc.heap[sb]? = some (.cells cs 52 (0, 0))) (hcs : cs[0]? = some ov) (hne : ov.ownBlock ≠ some sb)
    (hs : a.eval s = ov) (hx : a.eval x = .slice (some ⟨wc.heap.size, 0, none⟩) 1 1)
    (h : ∀ g' cap w2, Hid (Cmps B w2 (.slice (some ⟨g', 0, none⟩) (l.length + 1) cap) (l ++ [c]) ∧ w2.heap[sb]? = some (.cells cs 52 (0, 0)) ∧ St (fun x => ov.ownBlock = some x) wc w2) → w2.cell? ⟨sb, 0, none⟩ = some ov → w2.frozen? ⟨sb, 0, none⟩ = false → K (a.put o.dst (.slice (some ⟨g', 0, none⟩) (l.length + 1) cap)) w2) :
    if Region.wanted o (yielded ops a.tmps) = true then Oper.wp Tryz.prog o a (wc.alloc (.cells #[.string c.s, .int .i64 c.wd, .bool c.rb, .int .i64 c.d0, .int .i64 c.d1, .int .i64 c.d2, .int .i64 c.d3] 96)).drew K Q else E := by
  obtain ⟨i0, hi, hz0, hz1, hz2⟩ := info_parts infoCmp
  have hb : Below wc.heap.size wc (wc.alloc (.cells #[.string c.s, .int .i64 c.wd, .bool c.rb, .int .i64 c.d0, .int .i64 c.d1, .int .i64 c.d2, .int .i64 c.d3] 96)).drew := ((Below.refl _ _).alloc (Nat.le_refl _) _).drew
  have ho2 : (wc.alloc (.cells #[.string c.s, .int .i64 c.wd, .bool c.rb, .int .i64 c.d0, .int .i64 c.d1, .int .i64 c.d2, .int .i64 c.d3] 96)).drew.ownsRow B 96 7 ov l.length (cCells l) := World.ownsRow.alloc hown _
  have hz : (wc.alloc (.cells #[.string c.s, .int .i64 c.wd, .bool c.rb, .int .i64 c.d0, .int .i64 c.d1, .int .i64 c.d2, .int .i64 c.d3] 96)).drew.heap.size = wc.heap.size + 1 := by simp
  have hh := heap_alloc_new wc (.cells #[.string c.s, .int .i64 c.wd, .bool c.rb, .int .i64 c.d0, .int .i64 c.d1, .int .i64 c.d2, .int .i64 c.d3] 96)
  refine step_append_lies _ hgd s x 49 ho B 96 i0 (.agg #[.string ⟨#[]⟩, .int .i64 0, .bool false, .int .i64 0, .int .i64 0, .int .i64 0, .int .i64 0]) 7 64 Tryz.underlying49 hi hz0 hz1 hz2 rfl (by decide) ov l.length (cCells l) hs ho2 ⟨wc.heap.size, 0, none⟩ 1 1 (cArr c) hx rfl (fun j u hu => by
    rw [add_at]
    exact cell_blk (W := wc.alloc _) hh (by simpa [cArr] using hu)) (by intro u hu; simp [cArr] at hu; rcases hu with rfl | rfl | rfl | rfl | rfl | rfl | rfl <;> rfl) (by decide) (by unfold maxLen; omega) (by omega) (by omega) (wc.heap.size + 1) hz ?_
  intro g' cap w2 ow hg hat hlt
  have st : St (fun x => ov.ownBlock = some x) wc w2 := (St.of_below hb).trans (St.of_grown (S := fun x => ov.ownBlock = some x) hg fun k e => e) fun _ _ q => q
  have hb2 := st.at hbox hne
  refine h g' cap w2 ⟨?_, hb2, st⟩ (cell_blk hb2 hcs) (blk_free hb2 0)
  show World.ownsRow _ _ _ _ _ _ _
  have e : cCells (l ++ [c]) = cCells l ++ cArr c := by simp [cCells]
  rw [e, List.length_append]
  exact ow
def eightC (k : Nat) : Cmp := ⟨⟨#[97 + k.toUInt8]⟩, 1, decide ((k : Int) < 7), 0, 0, 0, 0⟩
def eightL (k : Nat) : List Cmp := (List.range k).map eightC
set_option maxRecDepth 1000000 in
theorem sub_name (k : Nat) (hk : k < 8) (w : World) : (Instr.slice 9 (.string ⟨#[97, 98, 99, 100, 101, 102, 103, 104]⟩) (some (.int .i64 (k : Int))) (some (.int .i64 (IntKind.i64.wrap ((k : Int) + 1)))) none).run Tryz.prog w = .ok (.string (eightC k).s) w := by
  have hkc : k = 0 ∨ k = 1 ∨ k = 2 ∨ k = 3 ∨ k = 4 ∨ k = 5 ∨ k = 6 ∨ k = 7 := by omega
  rcases hkc with rfl | rfl | rfl | rfl | rfl | rfl | rfl | rfl <;> (show _ = _; first | kernel_rfl | (simp [Instr.slice, eightC, go_sem]; done) | rfl)
structure Wi (W w1 : World) (l : List Cmp) (lv : Value) (wr : World) : Prop where
  box : wr.heap[W.heap.size + 1]? = some (.cells #[lv, .slice none 0 0] 52 (0, 0))
  row : Cmps w1.heap.size wr lv l
  st : St (fun k => k = W.heap.size + 1) w1 wr
set_option maxHeartbeats 3200000 in
set_option maxRecDepth 100000 in
theorem eight_any (W : World) : Calls Tryz.prog 15 #[] W fun e W' => ∃ va, e = .returned (.agg #[va, .slice none 0 0]) ∧ CmpRow W' va (eightL 8) ∧ Below W.heap.size W W' := by
  obtain ⟨w1, hw1⟩ : ∃ w1, w1 = (W.alloc (.cells #[.slice none 0 0, .slice none 0 0] 52)).alloc (.cells #[.slice none 0 0, .slice none 0 0] 52) := ⟨_, rfl⟩
  obtain ⟨b1, r1, p1⟩ := two_blk W #[.slice none 0 0, .slice none 0 0] #[.slice none 0 0, .slice none 0 0] 52 52
  have z1 : w1.heap.size = W.heap.size + 2 := by rw [hw1]; simp
  rw [← hw1] at b1 r1 p1
  have N0 : Hid (Wi W w1 (eightL 0) (.slice none 0 0) w1) := ⟨p1, World.ownsRow_nil _ _ _ _, St.of_below (Below.refl _ _)⟩
  have HW1 := hid hw1
  have B1 := hid b1
  have R1 := hid r1
  clear hw1 b1 r1 p1
  go_enter Tryz.func15, Tryz.ntmps15
  go_upto_region 2 with fail
  rw [← HW1.out]
  go_wp2_with fail
  go_loopg [2] 8 (fun gh i wr => ∃ k : Nat, k ≤ 8 ∧ gh = 8 - k ∧ i = .int .i64 (k : Int) ∧ ∃ lv, Hid (Wi W w1 (eightL k) lv wr))
  case atStart => exact ⟨0, Nat.zero_le _, rfl, rfl, _, N0.out⟩
  case round =>
    obtain ⟨k, hk, rfl, rfl, lv, HN⟩ := hrel
    by_cases hlt : k < 8
    · have hki : (k : Int) < 8 := by omega
      have hk0 : (0 : Int) ≤ (k : Int) := by omega
      obtain ⟨l, hl⟩ : ∃ l, l = eightL k := ⟨_, rfl⟩
      rw [← hl] at HN
      have hl9 : l.length ≤ 1000 := by rw [hl]; simp [eightL]; omega
      obtain ⟨oa, oc, rfl⟩ : ∃ a c, lv = .slice a l.length c := own_slice HN.out.row
      have BOX := hid HN.out.box
      have ROW := hid HN.out.row
      have y0 : wr.cell? ⟨W.heap.size + 1, 0, none⟩ = some (.slice oa l.length oc) := cell_blk BOX.out rfl
      have hne : (Value.slice oa l.length oc).ownBlock ≠ some (W.heap.size + 1) := fun e => by have := (World.ownsRow.lt ROW.out _ e).1; omega
      have hB6 : w1.heap.size ≤ wr.heap.size := HN.out.st.size
      have htn : ¬ (W.heap.size + 1 = wr.heap.size) := by omega
      have htw : W.heap.size + 1 < wr.heap.size := by omega
      have HL := hid hl
      clear hl
      have hsl := sub_name k hlt
      go_wp2_with fail
      go_region_law (refine step_cmp (c := eightC k) rfl _ _ rfl ROW.out hl9 hB6 BOX.out rfl hne rfl rfl ?_; intro g' cap w7 hg hx7 hf7)
      all_goals
        obtain ⟨q1, q2, q3⟩ := hg.out
        have s1 := St.setCell (S := fun k => k = W.heap.size + 1) (a := w7) (p := ⟨W.heap.size + 1, 0, none⟩) (.slice (some ⟨g', 0, none⟩) (l.length + 1) cap) rfl
        have NX : Hid (Wi W w1 (eightL (k + 1)) (.slice (some ⟨g', 0, none⟩) (l.length + 1) cap) (w7.setCell ⟨W.heap.size + 1, 0, none⟩ (.slice (some ⟨g', 0, none⟩) (l.length + 1) cap))) := by
          have e : eightL (k + 1) = l ++ [eightC k] := by rw [HL.out]; unfold eightL; rw [List.range_succ, List.map_append]; rfl
          refine ⟨?_, ?_, ?_⟩
          · have := heap_setCell_same w7 (W.heap.size + 1) 0 _ _ (.slice (some ⟨g', 0, none⟩) (l.length + 1) cap) q2
            simpa using this
          · rw [e]
            exact own_kept q1 s1 fun y hy e => by have := (World.ownsRow.lt q1 y hy).1; omega
          · exact (HN.out.st.trans q3 fun y hy e => by have := (World.ownsRow.lt ROW.out y e).1; omega).trans s1 fun _ _ q => q
        clear hx7 hf7 q1 q2 q3 s1 hg
        go_wp2_with fail
        go_roundg (8 - (k + 1))
        case measure => omega
        case rel => exact ⟨k + 1, by omega, rfl, by go_num, _, NX.out⟩
    · have hki : ¬ ((k : Int) < 8) := by omega
      obtain rfl : k = 8 := by omega
      obtain ⟨L, hL⟩ : ∃ L, L = eightL 8 := ⟨_, rfl⟩
      have hN := HN.out
      rw [← hL] at hN
      have HL := hid hL
      clear hL
      obtain ⟨oa, oc, rfl⟩ : ∃ a c, lv = .slice a L.length c := own_slice hN.row
      have y0 : wr.cell? ⟨W.heap.size + 1, 0, none⟩ = some (.slice oa L.length oc) := cell_blk hN.box rfl
      have y1 : wr.cell? ⟨W.heap.size + 1, 1, none⟩ = some (.slice none 0 0) := cell_blk hN.box rfl
      have r8 := hN.st.at R1.out (by omega)
      have x0 : wr.cell? ⟨W.heap.size, 0, none⟩ = some (.slice none 0 0) := cell_blk r8 rfl
      have x1 : wr.cell? ⟨W.heap.size, 1, none⟩ = some (.slice none 0 0) := cell_blk r8 rfl
      have f0 := blk_free r8 0
      have f1 := blk_free r8 1
      have h1 := heap_setCell_same wr W.heap.size 0 _ _ (.slice oa L.length oc) r8
      have h2 := heap_setCell_same _ W.heap.size 1 _ _ (.slice none 0 0) h1
      have c := fun (w : World) (j : Nat) (v : Value) => St.setCell (S := fun k => k = W.heap.size) (a := w) (p := ⟨W.heap.size, j, none⟩) v rfl
      have s2 := (c wr 0 (.slice oa L.length oc)).trans (c _ 1 (.slice none 0 0)) fun _ _ q => q
      have CR := hid (Cmps.row (own_kept hN.row s2 fun y hy e => by have := (World.ownsRow.lt hN.row y hy).1; omega))
      have BB := hid ((B1.out.trans (hN.st.below (B := W.heap.size) (fun q hq => by omega) (by omega))).trans (s2.below (B := W.heap.size) (fun q hq => by omega) (by have := hN.st.size; omega)))
      have H2 := hid h2
      clear hN h1 h2 c s2 r8
      go_wp2_with fail
      generalize (wr.setCell ⟨W.heap.size, 0, none⟩ (.slice oa L.length oc)).setCell ⟨W.heap.size, 1, none⟩ (.slice none 0 0) = w9 at *
      have d0 : w9.cell? ⟨W.heap.size, 0, none⟩ = some (.slice oa L.length oc) := cell_blk H2.out rfl
      have d1 : w9.cell? ⟨W.heap.size, 1, none⟩ = some (.slice none 0 0) := cell_blk H2.out rfl
      exact bodyPost_ret (v := .agg #[.slice oa L.length oc, .slice none 0 0]) (by simp [results, Tryz.results15, go_sem, d0, d1]) rfl ⟨_, rfl, by rw [← HL.out]; exact CR.out, BB.out⟩
theorem eight_rol : rolA (eightL 8) = 127 := by kernel_rfl
end Go.Proofs.YtoafpfheopgdkaaGreatDoor.Qu
namespace Go.Proofs.YtoafpfheopgdkaaGreatDoor.Qu
open Go.RowKit Go.Shelf Go.Maps
open Go.Proofs.YtoafpfheopgdkaaGreatDoor.At (St bAl cell_blk blk_seen blk_free an wi)
open Go.Proofs.YtoafpfheopgdkaaGreatDoor.Sc (Cmp CmpRow)
open Go.Proofs.YtoafpfheopgdkaaGreatDoor.Rs (Prt PRow Six six_blk)
theorem join_one (s : ByteArray) : joinB [s] = s := by simp [joinB, Lib.join]
theorem four_flaws : qcheckL 127 128 128 2 = [([bWith], 1), ([bWithout], 1), ([bWithout], 9), ([bChanged], 7)] := by decide +kernel
theorem no_flaws : qcheckL 127 1 0 1 = [] := by decide +kernel
theorem eqW (w : World) : (binOp .eql 73 (.agg #[.string ⟨#[119, 105, 116, 104]⟩, .int .i64 1]) (.agg #[.string ⟨#[119, 105, 116, 104]⟩, .int .i64 1])).run Tryz.prog w = .ok (.bool true) w := by kernel_rfl
theorem eqC (w : World) : (binOp .eql 73 (.agg #[.string ⟨#[99, 104, 97, 110, 103, 101, 100]⟩, .int .i64 7]) (.agg #[.string ⟨#[99, 104, 97, 110, 103, 101, 100]⟩, .int .i64 7])).run Tryz.prog w = .ok (.bool true) w := by kernel_rfl
theorem one_means (x : Int) : meansB 1 0 1 9 [⟨0, 0, 0, 0, 0, x⟩] = decide (8 ≤ x) := by
  have e1 : At.lst 32 1 = [0] := by decide +kernel
  have e0 : At.lst 32 0 = [] := by decide +kernel
  unfold meansB evB
  rw [e1, e0]
  simp [hasP, lateP, snc]
  rfl
theorem mean_at {w3 W : World} (k : Nat) (x : Int) (hr : W.heap[k]? = some (.cells #[.int .i64 0, .int .i64 0, .int .i64 0, .int .i64 0, .int .i64 0, .int .i64 x] 71 (0, 0))) (hx : J64 x) (hb : Below w3.heap.size w3 W) :
    Calls Tryz.prog 23 #[.agg #[.int .u32 1, .int .u32 0, .int .u32 1], .int .i64 9, .slice (some ⟨k, 0, none⟩) 1 1] W fun e w' => e = .returned (.bool (decide (8 ≤ x))) ∧ Below w3.heap.size w3 w' := by
  have r1 : W.heap[k]? = some (.cells (Prt.arr ⟨0, 0, 0, 0, 0, x⟩) 71 (0, 0)) := hr
  have T := means_any (W := W) (v := .slice (some ⟨k, 0, none⟩) 1 1) (ps := [⟨0, 0, 0, 0, 0, x⟩]) 1 0 1 (by decide) (by decide) (by decide) 9 (J64_mid (by decide) (by decide)) ⟨_, _, rfl, .inr ⟨k, 0, rfl, fun j p hj => by
      match j, hj with
      | 0, hj =>
        obtain rfl : (⟨0, 0, 0, 0, 0, x⟩ : Prt) = p := by simpa using hj
        exact six_blk r1
      | j + 1, hj => simp at hj⟩⟩ (by simp) (fun p hp => by
      obtain rfl : p = ⟨0, 0, 0, 0, 0, x⟩ := by simpa using hp
      exact ⟨show J64 0 from J64_mid (by decide) (by decide), hx⟩)
  rw [one_means] at T
  refine T.mono ?_
  rintro e w' ⟨rfl, h⟩
  exact ⟨rfl, hb.trans (h.mono hb.size)⟩
theorem new_drew (wc : World) (cs : Array Value) (e : TypeId) : (wc.alloc (.cells cs e)).drew.heap[wc.heap.size]? = some (.cells cs e (0, 0)) := heap_alloc_new wc _
theorem bel_al {w3 wc : World} (h : Below w3.heap.size w3 wc) (o : Obj) : Below w3.heap.size w3 (wc.alloc o) := h.alloc h.size o
theorem chk_eight (Ad : Nat → Addr) {w3 wc : World} {va : Value} (hE : Env w3 Ad) (hC : CmpRow wc va (eightL 8)) (hb : Below w3.heap.size w3 wc) (a b c : Nat) (ha : a < 4294967296) (hb' : b < 4294967296) (hc : c < 4294967296) :
    Calls Tryz.prog 22 #[.agg #[va, .slice none 0 0], .agg #[.int .u32 (a : Int), .int .u32 (b : Int), .int .u32 (c : Int)]] wc fun e w' => ∃ v', e = .returned v' ∧ Top Ad w'.heap.size w' 1 v' (qcheckL 127 a b c) ∧ Below w3.heap.size w3 w' := by
  have T := qcheck_any Ad wc va (.slice none 0 0) ⟨_, _, _, rfl⟩ (eightL 8) (hE.later hb) hC (by simp [eightL]) a b c ha hb' hc
  rw [eight_rol] at T
  refine T.mono ?_
  rintro e w' ⟨v', rfl, t, h⟩
  exact ⟨v', rfl, t, hb.trans (h.mono hb.size)⟩
theorem top_empty {Ad : Nat → Addr} {n d : Nat} {W : World} {v : Value} (h : Top Ad n W d v []) : v = .nilIface := by
  rcases h with ⟨rfl, -⟩ | ⟨p, h, -⟩ | ⟨b, vs, -, h, hS⟩
  · rfl
  · simp at h
  · obtain rfl : vs = [] := by simpa using h.symm
    obtain ⟨g, c, q⟩ := hS
    simp at c
set_option maxHeartbeats 6400000 in
set_option maxRecDepth 100000 in
theorem awake_any (Ad : Nat → Addr) (w : World) (hE : Env w Ad) :
    Calls Tryz.prog 6 #[] w fun e w' => e = .returned (.bool true) ∧ Below w.heap.size w w' := by
  obtain ⟨w1, hw1⟩ : ∃ w1, w1 = w.alloc (.cells #[.int .u32 1, .int .u32 0, .int .u32 1] 26) := ⟨_, rfl⟩
  have b1 : Below w.heap.size w w1 := by rw [hw1]; exact bAl _ _
  have R1 : Hid (w1.heap[w.heap.size]? = some (.cells #[.int .u32 1, .int .u32 0, .int .u32 1] 26 (0, 0))) := by rw [hw1]; exact heap_alloc_new w _
  have HW1 := hid hw1
  have B1 := hid b1
  have E1 := hid (hE.later b1)
  have EI := hid (eight_any w1)
  clear hw1 b1 hE
  go_enter Tryz.func6, Tryz.ntmps6
  go_upto_region 2 with fail
  rw [← HW1.out]
  go_wp2_with fail
  refine EI.out.mono ?_
  rintro e w2 ⟨va, rfl, hc2, b2⟩
  have B2 := hid b2
  have CC := hid (chk_eight Ad E1.out hc2 b2 128 128 2 (by decide) (by decide) (by decide))
  rw [four_flaws] at CC
  obtain ⟨xa, xc, rfl, -, -⟩ := hc2
  clear EI b2
  go_wp2_with fail
  refine CC.out.mono ?_
  rintro e w3 ⟨v3, rfl, t3, b3⟩
  have B3 := hid b3
  have E3 := hid (E1.out.later b3)
  have LC := hid (leaves_any Ad v3 _ 1 w3 E3.out t3.tr (by omega) (by intro p hp; simp at hp; rcases hp with rfl | rfl | rfl | rfl <;> exact ⟨by rw [join_one]; decide, by simp⟩) (by simp))
  have TS : ∃ t q, v3 = .iface t q := by
    rcases t3 with ⟨-, h⟩ | ⟨p, h, -⟩ | ⟨b, vs, h, -, -⟩
    · simp at h
    · simp at h
    · exact ⟨_, _, h⟩
  obtain ⟨t, q, rfl⟩ := TS
  clear t3 b3 CC
  go_wp2_with fail
  refine LC.out.mono ?_
  rintro e w4 ⟨lv, rfl, ho4, b4⟩
  have B4 := hid (B3.out.trans (b4.mono B3.out.size))
  have BW4 := hid (B1.out.trans (B4.out.mono B1.out.size))
  have E4 := hid (E3.out.later b4)
  obtain ⟨g, cap, rfl, hg1, hg2⟩ := World.ownsRow.form ho4 (by simp)
  have KK : Hid (∀ W', Below w4.heap.size w4 W' → W'.cell? ⟨w.heap.size, 0, none⟩ = some (.int .u32 1) ∧ W'.cell? ⟨w.heap.size, 1, none⟩ = some (.int .u32 0) ∧ W'.cell? ⟨w.heap.size, 2, none⟩ = some (.int .u32 1) ∧ W'.cell? ⟨g, 0, none⟩ = some (.string ⟨#[119, 105, 116, 104]⟩) ∧ W'.cell? ⟨g, 1, none⟩ = some (.int .i64 1) ∧ W'.cell? ⟨g, 6, none⟩ = some (.string ⟨#[99, 104, 97, 110, 103, 101, 100]⟩) ∧ W'.cell? ⟨g, 7, none⟩ = some (.int .i64 7)) := by
    intro W' hb
    have q := blk_seen (B4.out.trans (hb.mono B4.out.size)) (Nat.le_refl _) R1.out
    have S := fun (j : Nat) (hj : j < 8) => (hb.cell (p := ⟨g, j, none⟩) hg2).trans (ho4.cellAt j (by simpa using hj))
    refine ⟨cell_blk q rfl, cell_blk q rfl, cell_blk q rfl, (S 0 (by decide)).trans ?_, (S 1 (by decide)).trans ?_, (S 6 (by decide)).trans ?_, (S 7 (by decide)).trans ?_⟩
    · simp [leafCells, join_one]; rfl
    · simp [leafCells]
    · simp [leafCells, join_one]; rfl
    · simp [leafCells]
  have e1 := eqW
  have e2 := eqC
  have hd0 := Below.refl w4.heap.size w4
  have hd1 : Below w4.heap.size w4 w4.drew := (Below.refl _ _).drew
  have j8 : J64 8 := J64_mid (by decide) (by decide)
  have j7 : J64 7 := J64_mid (by decide) (by decide)
  obtain ⟨c0, c1, c2, c3, c4, c5, c6⟩ := KK.out w4 hd0
  clear ho4 b4 LC hg1 hg2 HW1 R1 B3 E3 B2 B1 E1 B4
  obtain ⟨fb, hfb⟩ : ∃ fb, fb = w.heap.size := ⟨_, rfl⟩
  rw [← hfb] at KK c0 c1 c2
  go_upto_region 3 with fail
  rw [← hfb]
  clear hfb
  go_region_held3 (fun W' => W'.cell? ⟨fb, 0, none⟩ = some (.int .u32 1) ∧ W'.cell? ⟨fb, 1, none⟩ = some (.int .u32 0) ∧ W'.cell? ⟨fb, 2, none⟩ = some (.int .u32 1) ∧ W'.cell? ⟨g, 0, none⟩ = some (.string ⟨#[119, 105, 116, 104]⟩) ∧ W'.cell? ⟨g, 1, none⟩ = some (.int .i64 1) ∧ W'.cell? ⟨g, 6, none⟩ = some (.string ⟨#[99, 104, 97, 110, 103, 101, 100]⟩) ∧ W'.cell? ⟨g, 7, none⟩ = some (.int .i64 7))
    (first | (exact KK.out _ (by assumption)) | go_keep)
    (first
      | (go_at_call 23; refine (mean_at _ _ (by first | exact heap_alloc_new _ _ | exact new_drew _ _ _) (by first | exact j8 | exact j7) (by first | exact bel_al (by assumption) _ | exact (bel_al (by assumption) _).drew)).mono ?_; rintro e w5 ⟨rfl, hd5⟩)
      | (go_at_call 15; refine (eight_any _).mono ?_; rintro e w6 ⟨va6, rfl, hc6, hb6⟩; have hd6 := Below.trans (by assumption : Below w4.heap.size w4 _) (hb6.mono (Below.size (by assumption : Below w4.heap.size w4 _))))
      | (go_at_call 22; refine (chk_eight Ad E4.out (by assumption) (by assumption) 1 0 1 (by decide) (by decide) (by decide)).mono ?_; rintro e w7 ⟨v7, rfl, t7, hd7⟩; rw [no_flaws] at t7; obtain rfl := top_empty t7))
  have BF := hid (BW4.out.trans (hd7.mono BW4.out.size))
  clear KK hd7 hd0 hd1 e1 e2
  go_wp2_with fail
  go_ret
  exact ⟨rfl, BF.out⟩
end Go.Proofs.YtoafpfheopgdkaaGreatDoor.Qu
namespace Go.Proofs.YtoafpfheopgdkaaGreatDoor.Qr
open Go.RowKit Go.Shelf Go.Maps Go.Sort
open Go.Proofs.YtoafpfheopgdkaaGreatDoor.At (St bAl cell_blk blk_seen blk_free)
open Go.Proofs.YtoafpfheopgdkaaGreatDoor.Rs (SD Prt Prts PRow mskP)
open Go.Proofs.YtoafpfheopgdkaaGreatDoor.So (Aw Sto CV Fr al Run)
open Go.Proofs.YtoafpfheopgdkaaGreatDoor.Bd (Bg Prs okP who num ins IRow irow_of)
open Go.Proofs.YtoafpfheopgdkaaGreatDoor.Qu (J64 Bei bL meansB hasP)
theorem infoIntB : (Tryz.prog.info? 3).map (fun i => (i.zero, i.size, i.bytes)) = some (some (.int .i64 0), 1, 8) := by kernel_rfl
/-- A row of numbers that is owned. -/
def Nums (B : Nat) (W : World) (v : Value) (xs : List Int) : Prop := W.ownsRow B 3 1 v xs.length (xs.map Go.encZ)
/-- append of one number. -/
theorem wpList_numI {ops : Array Oper} {rest : List Oper} {o : Oper} {a : Act} {Q : Exit → Act → World → Prop} (hgd : o.guard = none) (s x : Operand)
    (ho : o.op = .call { callee := .builtin .append, args := #[s, x], argTypes := #[32, 32] }) {B : Nat} {v : Value} {wc : World} {xs : List Int} {y : Int} (hown : Nums B wc v xs) (hl : xs.length ≤ 1000) (hB : B ≤ wc.heap.size)
    (hs : a.eval s = v) (hx : a.eval x = .slice (some ⟨wc.heap.size, 0, none⟩) 1 1)
    (h : ∀ v' w2, Hid (Nums B w2 v' (xs ++ [y])) → Hid (St (fun x => v.ownBlock = some x) wc w2) → wpList Tryz.prog ops Q rest (a.put o.dst v') w2) :
    wpList Tryz.prog ops Q (o :: rest) a (wc.alloc (.cells #[.int .i64 y] 3)) := by
  obtain ⟨i0, hi, hz0, hz1, hz2⟩ := info_parts infoIntB
  have hb := bAl wc (.cells #[.int .i64 y] 3)
  have ho2 : (wc.alloc (.cells #[.int .i64 y] 3)).ownsRow B 3 1 v xs.length (xs.map Go.encZ) := World.ownsRow.alloc hown _
  have hh := heap_alloc_new wc (.cells #[.int .i64 y] 3)
  refine wpList_append_lies _ hgd s x 32 ho B 3 i0 (.int .i64 0) 1 8 Tryz.underlying32 hi hz0 hz1 hz2 rfl (by decide) v xs.length (xs.map Go.encZ) hs ho2 ⟨wc.heap.size, 0, none⟩ 1 1 [.int .i64 y] hx rfl (fun j u hu => by
    rw [add_at]
    exact cell_blk hh (by simpa using hu)) (by intro u hu; simp at hu; subst hu; rfl) (by decide) (by unfold maxLen; omega) (by omega) (by simp; omega) (wc.heap.size + 1) (by simp) ?_
  intro g' cap w2 ow hg hat hlt
  refine h _ w2 ?_ ((St.of_below hb).trans (St.of_grown (S := fun x => v.ownBlock = some x) hg fun k e => e) fun _ _ q => q)
  show World.ownsRow _ _ _ _ _ _ _
  rw [List.map_append, List.length_append]
  exact ow
theorem bel_num {A wr w2 : World} {v : Value} {q : List Int} (hb : Below A.heap.size A wr) (hp : Nums A.heap.size wr v q) (hs : St (fun x => v.ownBlock = some x) wr w2) : Below A.heap.size A w2 :=
  hb.trans (hs.below (fun x hx => (World.ownsRow.lt hp x hx).1) hb.size)
theorem Nums.later {B : Nat} {W W' : World} {v : Value} {xs : List Int} (h : Nums B W v xs) (hb : Below W.heap.size W W') : Nums B W' v xs := Qu.own_kept h (St.of_below (S := fun _ => False) hb) fun _ _ q => q
/-- slices.Sort of a row of numbers. -/
theorem isort_any {B : Nat} {W : World} {v : Value} {xs : List Int} (h : Nums B W v xs) (hl : xs.length ≤ 5000) :
    Calls Tryz.prog 29 #[v] W fun e w' => e = .returned (.tuple #[]) ∧ w'.ownsRow B 3 1 v xs.length ((xs.mergeSort fun x y => decide (x ≤ y)).map Go.encZ) ∧ St (fun k => v.ownBlock = some k) W w' := by
  rcases h.2 with ⟨h1, h2⟩ | ⟨g, cap, cur, h1, h2, h3, h4, h5, h6, h7⟩
  · subst h1
    obtain rfl : xs = [] := List.length_eq_zero_iff.1 h2
    refine (AnyM.slices_Sort_int_none Tryz.sortA none 0 W).mono ?_
    rintro e w' ⟨rfl, rfl⟩
    exact ⟨rfl, by simpa using World.ownsRow_nil _ _ _ _, St.of_below (Below.refl _ _)⟩
  · subst h1
    have hg := (Array.getElem?_eq_some_iff.1 h3).1
    refine (AnyM.slices_Sort_int Tryz.sortA g 0 cap xs W (holds_of_blockI h3 (by rw [Nat.mul_one] at h7; exact h7)) hg (by omega)).mono ?_
    rintro e w' ⟨rfl, n, os, rfl⟩
    refine ⟨rfl, ownsRow_sortedI (by simp) h2 h3 h4 h5 h6, ?_⟩
    exact St.of_grown (S := fun k => (Value.slice (some ⟨g, 0, none⟩) xs.length cap).ownBlock = some k) (grownBy_sortedI _) fun k e => by rw [← e]; rfl
/-- Badges lie where their three blocks lie. -/
theorem bg_same {B : Nat} {w w' : World} {bb ob nb : Nat} {n : Int} {l : Prs} (h : Bg B w bb ob nb n l) (he : ∀ k, Bd.Ft bb ob nb k → w'.heap[k]? = w.heap[k]?) : Bg B w' bb ob nb n l := by
  refine ⟨(he _ (.inl rfl)).trans h.box, ?_, ?_, h.ok, h.low, h.ne⟩
  · obtain ⟨D, ⟨es, clock, hb, q⟩, hH⟩ := h.m1
    exact ⟨D, ⟨es, clock, (he _ (.inr (.inl rfl))).trans hb, q⟩, hH⟩
  · obtain ⟨D, ⟨es, clock, hb, q⟩, hH⟩ := h.m2
    exact ⟨D, ⟨es, clock, (he _ (.inr (.inr rfl))).trans hb, q⟩, hH⟩
/-- A store and badges in one world. -/
structure Jn (W1 : World) (sb : Nat) (s : SD) (t bb ob nb : Nat) (n : Int) (l : Prs) (w : World) : Prop where
  aw : ∃ o1 o2 o3, Aw W1 sb s t [(bb, o1), (ob, o2), (nb, o3)] w
  bg : Bg W1.heap.size w bb ob nb n l
section
variable {W1 w w' : World} {sb : Nat} {s s' : SD} {t bb ob nb : Nat} {n : Int} {l : Prs} {Ad : Nat → Addr}
theorem Jn.bel (h : Jn W1 sb s t bb ob nb n l w) : Below W1.heap.size W1 w := by obtain ⟨o1, o2, o3, q⟩ := h.aw; exact q.bel
theorem Jn.later (h : Jn W1 sb s t bb ob nb n l w) (hb : Below w.heap.size w w') : Jn W1 sb s t bb ob nb n l w' := by
  obtain ⟨o1, o2, o3, q⟩ := h.aw
  exact ⟨⟨o1, o2, o3, q.later hb⟩, h.bg.later hb⟩
theorem Jn.mk' {o1 o2 o3 : Obj} {t' : Nat} (hb : Bg W1.heap.size w bb ob nb n l) (h : Aw W1 sb s t [(bb, o1), (ob, o2), (nb, o3)] w) (h' : Aw W1 sb s' t' [(bb, o1), (ob, o2), (nb, o3)] w') : Jn W1 sb s' t' bb ob nb n l w' := by
  refine ⟨⟨o1, o2, o3, h'⟩, bg_same hb fun k hk => ?_⟩
  rcases hk with rfl | rfl | rfl
  · exact (h'.at (List.mem_cons_self ..)).trans (h.at (List.mem_cons_self ..)).symm
  · exact (h'.at (List.mem_cons_of_mem _ (List.mem_cons_self ..))).trans (h.at (List.mem_cons_of_mem _ (List.mem_cons_self ..))).symm
  · exact (h'.at (List.mem_cons_of_mem _ (List.mem_cons_of_mem _ (List.mem_cons_self ..)))).trans (h.at (List.mem_cons_of_mem _ (List.mem_cons_of_mem _ (List.mem_cons_self ..)))).symm
/-- The store beside badges that were made behind it. -/
theorem Jn.new (h : Aw W1 sb s t [] w) (hg : Bg w.heap.size w' bb ob nb n l) (hb : Below w.heap.size w w') : Jn W1 sb s t bb ob nb n l w' := by
  have hb1 := h.bel.size
  have g := hg.lower (B' := W1.heap.size) hb1
  obtain ⟨o1, q1⟩ : ∃ o, w'.heap[bb]? = some o := ⟨_, hg.box⟩
  obtain ⟨o2, q2⟩ : ∃ o, w'.heap[ob]? = some o := by obtain ⟨es, cl, q⟩ := hg.m1.obj; exact ⟨_, q⟩
  obtain ⟨o3, q3⟩ : ∃ o, w'.heap[nb]? = some o := by obtain ⟨es, cl, q⟩ := hg.m2.obj; exact ⟨_, q⟩
  refine ⟨⟨o1, o2, o3, ?_⟩, g⟩
  obtain ⟨c, e1, e2, e3⟩ := h.ex
  have F : ∀ k o, w.heap.size ≤ k → w'.heap[k]? = some o → Fr c w' k o := fun k o hk ho => ⟨Classical.byContradiction fun q => by have := (e1.lt k q).2; omega, ho⟩
  refine ⟨⟨c, e1.later hb, e2, fun x hx => ?_⟩, h.bel.trans (hb.mono hb1)⟩
  simp only [List.mem_cons, List.not_mem_nil, or_false] at hx
  rcases hx with rfl | rfl | rfl
  · exact F _ _ (hg.lt _ (.inl rfl)).1 q1
  · exact F _ _ (hg.lt _ (.inr (.inl rfl))).1 q2
  · exact F _ _ (hg.lt _ (.inr (.inr rfl))).1 q3
/-- Badges that were turned leave the store as it was. -/
theorem Jn.badge {n' : Int} {l' : Prs} (h : Jn W1 sb s t bb ob nb n l w) (hg : Bg W1.heap.size w' bb ob nb n' l') (hs : Bd.St (fun k => Bd.Ft bb ob nb k) w w') : Jn W1 sb s t bb ob nb n' l' w' := by
  obtain ⟨o1, o2, o3, q⟩ := h.aw
  obtain ⟨c, e1, e2, e3⟩ := q.ex
  have st : St (fun k => Bd.Ft bb ob nb k) w w' := ⟨hs.os, hs.tape, hs.output, hs.size, hs.block⟩
  have c1 : c.f bb = (0, 0, 0) := (e3 (bb, o1) (by simp)).1
  have c2 : c.f ob = (0, 0, 0) := (e3 (ob, o2) (by simp)).1
  have c3 : c.f nb = (0, 0, 0) := (e3 (nb, o3) (by simp)).1
  obtain ⟨p1, q1⟩ : ∃ o, w'.heap[bb]? = some o := ⟨_, hg.box⟩
  obtain ⟨p2, q2⟩ : ∃ o, w'.heap[ob]? = some o := by obtain ⟨es, cl, q⟩ := hg.m1.obj; exact ⟨_, q⟩
  obtain ⟨p3, q3⟩ : ∃ o, w'.heap[nb]? = some o := by obtain ⟨es, cl, q⟩ := hg.m2.obj; exact ⟨_, q⟩
  refine ⟨⟨p1, p2, p3, ⟨c, e1.keep st fun k hk hf => ?_, e2, fun x hx => ?_⟩, h.bel.trans (st.below (B := W1.heap.size) (fun k hk => (h.bg.lt k hk).1) h.bel.size)⟩, hg⟩
  · rcases hf with rfl | rfl | rfl
    · exact hk c1
    · exact hk c2
    · exact hk c3
  · simp only [List.mem_cons, List.not_mem_nil, or_false] at hx
    rcases hx with rfl | rfl | rfl
    · exact ⟨c1, q1⟩
    · exact ⟨c2, q2⟩
    · exact ⟨c3, q3⟩
end
end Go.Proofs.YtoafpfheopgdkaaGreatDoor.Qr
namespace Go.Proofs.YtoafpfheopgdkaaGreatDoor.Qr
open Go.RowKit Go.Shelf Go.Maps
open Go.Proofs.YtoafpfheopgdkaaGreatDoor.At (St bAl cell_blk blk_seen blk_free mtB an)
open Go.Proofs.YtoafpfheopgdkaaGreatDoor.Rs (SD Prt Prts PRow mskP fitP)
open Go.Proofs.YtoafpfheopgdkaaGreatDoor.So (Aw Sto CV Fr al Run ones sortP chkL matched)
open Go.Proofs.YtoafpfheopgdkaaGreatDoor.Bd (Bg Prs okP who num ins)
open Go.Proofs.YtoafpfheopgdkaaGreatDoor.Qu (J64 Bei bL bL_mem bL_len bL_wf meansB meansB_iff hasP hasP_iff)
theorem bL_sorted (x : Bei) (k : Nat) : (bL x k).Pairwise (fun p q => p.c < q.c) := by
  induction k with
  | zero => simp [bL]
  | succ k ih =>
    unfold bL
    split
    · refine List.pairwise_append.2 ⟨ih, by simp, fun p hp q hq => ?_⟩
      obtain ⟨j, h1, -, rfl⟩ := (bL_mem x p k).1 hp
      simp at hq
      subst hq
      show (j : Int) < (k : Int)
      omega
    · exact ih
theorem bL_fit (x : Bei) (j : Nat) (hj : j < 8) : fitP ones ⟨(j : Int), 0, 0, 0, 0, x.tk j⟩ = true := by
  have hw : ones[j]? = some 1 := by
    have : j = 0 ∨ j = 1 ∨ j = 2 ∨ j = 3 ∨ j = 4 ∨ j = 5 ∨ j = 6 ∨ j = 7 := by omega
    rcases this with rfl | rfl | rfl | rfl | rfl | rfl | rfl | rfl <;> rfl
  rw [Rs.fit_in (p := ⟨(j : Int), 0, 0, 0, 0, x.tk j⟩) rfl hw]
  rfl
theorem bL_chk (x : Bei) : chkL ones (bL x 8) = 0 := by
  unfold chkL
  rw [if_pos, if_pos]
  · exact (bL_sorted x 8).imp fun h => by omega
  · rw [List.all_eq_true]
    intro p hp
    obtain ⟨j, h1, -, rfl⟩ := (bL_mem x p 8).1 hp
    exact bL_fit x j h1
theorem bL_tick {x : Bei} (h : x.wf) : ∀ p ∈ bL x 8, Co.I64 p.t := fun p hp => (bL_wf h 8 (by decide) p hp).2
theorem bL_sort {x : Bei} (h : x.wf) : sortP (bL x 8) = bL x 8 := by
  have ok := So.sort_ok (bL_chk x) (bL_tick h)
  have pm := So.sort_perm (bL x 8)
  refine So.ext_key (fun p => p.c.toNat) ?_ ?_ fun x => pm.mem_iff.symm
  · refine List.Pairwise.imp_of_mem (fun {x y} hx hy h => ?_) ok.1.1
    have := (ok.1.2 x hx).1
    have := (ok.1.2 y hy).1
    omega
  · refine List.Pairwise.imp_of_mem (fun {p q} hx hy h => ?_) (bL_sorted x 8)
    obtain ⟨j, -, -, rfl⟩ := (bL_mem x p 8).1 hx
    obtain ⟨i, -, -, rfl⟩ := (bL_mem x q 8).1 hy
    change (j : Int) < (i : Int) at h
    show (j : Int).toNat < (i : Int).toNat
    omega
theorem bL_msk (x : Bei) : mskP (bL x 8) = x.m % 256 := by
  refine So.eq_bits fun i => Bool.eq_iff_iff.2 ?_
  rw [So.msk_mem fun p hp => by obtain ⟨j, -, -, rfl⟩ := (bL_mem x p 8).1 hp; exact Int.natCast_nonneg j, show (256 : Nat) = 2 ^ 8 from rfl, Nat.testBit_mod_two_pow]
  constructor
  · rintro ⟨p, hp, e⟩
    obtain ⟨j, h1, h2, rfl⟩ := (bL_mem x p 8).1 hp
    change (j : Int) = (i : Int) at e
    obtain rfl : j = i := by omega
    simp [h1, h2]
  · intro h
    simp at h
    exact ⟨⟨(i : Int), 0, 0, 0, 0, x.tk i⟩, (bL_mem x _ 8).2 ⟨i, h.1, h.2, rfl⟩, rfl⟩
/-- Who is meant has what must be there and not what must not. -/
theorem means_mt {a b c : Nat} {fr : Int} (x : Bei) (ha : a < 4294967296) (hb : b < 4294967296) (h : meansB a b c fr (bL x 8) = true) : mtB a b (mskP (bL x 8)) = true := by
  rw [meansB_iff] at h
  have hm : mskP (bL x 8) < 4294967296 := by rw [bL_msk]; omega
  have B : ∀ i, (mskP (bL x 8)).testBit i = true ↔ hasP (bL x 8) (i : Int) = true := fun i => (So.msk_mem (fun p hp => by obtain ⟨j, -, -, rfl⟩ := (bL_mem x p 8).1 hp; exact Int.natCast_nonneg j) i).trans ((hasP_iff _ _).symm)
  have out : ∀ {y : Nat}, y < 4294967296 → ∀ i, ¬ i < 32 → y.testBit i = false := fun hy i hi => Nat.testBit_lt_two_pow (Nat.lt_of_lt_of_le hy (Nat.pow_le_pow_right (n := 2) (by decide) (show 32 ≤ i by omega)))
  unfold mtB
  rw [Bool.and_eq_true, decide_eq_true_iff, decide_eq_true_iff]
  constructor
  · refine Nat.eq_of_testBit_eq fun i => ?_
    rw [At.an_bit a _ i ha hm, Nat.zero_testBit]
    by_cases h32 : i < 32
    · cases e : a.testBit i with
      | false => rfl
      | true => rw [(B i).2 ((h i h32).1 e)]; rfl
    · rw [out ha i h32]; rfl
  · refine Nat.eq_of_testBit_eq fun i => ?_
    rw [Nat.testBit_and, Nat.zero_testBit]
    by_cases h32 : i < 32
    · cases e : b.testBit i with
      | false => simp
      | true =>
        have := (h i h32).2.1 e
        cases q : (mskP (bL x 8)).testBit i with
        | false => rfl
        | true => rw [(B i).1 q] at this; cases this
    · rw [out hb i h32]; simp
/-- How many of the first k are named; their numbers. -/
def gvN (nm : Nat → Bool) : Nat → Nat
  | 0 => 0
  | k + 1 => if nm k then gvN nm k + 1 else gvN nm k
def gvL (nm : Nat → Bool) : Nat → Prs
  | 0 => []
  | k + 1 => if nm k then gvL nm k ++ [((gvN nm k : Int) + 1, (k : Int), 1)] else gvL nm k
theorem gvN_le (nm : Nat → Bool) (k : Nat) : gvN nm k ≤ k := by
  induction k with
  | zero => simp [gvN]
  | succ k ih => unfold gvN; split <;> omega
theorem gvN_mono (nm : Nat → Bool) {j k : Nat} (h : j ≤ k) : gvN nm j ≤ gvN nm k := by
  induction k with
  | zero => have : j = 0 := by omega
            subst this; exact Nat.le_refl _
  | succ k ih =>
    by_cases e : j = k + 1
    · subst e; exact Nat.le_refl _
    · have := ih (by omega)
      show gvN nm j ≤ if nm k then gvN nm k + 1 else gvN nm k
      split <;> omega
theorem gvL_mem (nm : Nat → Bool) (p : Int × Int × Int) : ∀ k, p ∈ gvL nm k ↔ ∃ j, j < k ∧ nm j = true ∧ p = ((gvN nm j : Int) + 1, (j : Int), 1)
  | 0 => by simp [gvL]
  | k + 1 => by
    have ih := gvL_mem nm p k
    unfold gvL
    constructor
    · intro h
      split at h
      · rename_i hb
        rcases List.mem_append.1 h with h | h
        · obtain ⟨j, h1, h2⟩ := ih.1 h; exact ⟨j, by omega, h2⟩
        · exact ⟨k, by omega, hb, by simpa using h⟩
      · obtain ⟨j, h1, h2⟩ := ih.1 h; exact ⟨j, by omega, h2⟩
    · rintro ⟨j, h1, h2, h3⟩
      by_cases e : j = k
      · subst e; rw [if_pos h2]; exact List.mem_append_right _ (by simp [h3])
      · have := ih.2 ⟨j, by omega, h2, h3⟩
        split
        · exact List.mem_append_left _ this
        · exact this
theorem gvL_len (nm : Nat → Bool) (k : Nat) : (gvL nm k).length = gvN nm k := by
  induction k with
  | zero => simp [gvL, gvN]
  | succ k ih => unfold gvL gvN; split <;> simp [ih]
theorem ins_last (p : Int × Int × Int) : ∀ (l : Prs), (∀ x ∈ l, x.1 < p.1) → ins p l = l ++ [p]
  | [], _ => rfl
  | y :: l, h => by
    have hy := h y (List.mem_cons_self ..)
    unfold ins
    rw [if_neg (by omega), ins_last p l fun x hx => h x (List.mem_cons_of_mem _ hx)]
    rfl
theorem num_none {l : Prs} {e : Int × Int} (h : ∀ x ∈ l, x.2 ≠ e) : num l e = none := by
  unfold num
  rw [List.find?_eq_none.2 fun x hx => by simpa using h x hx]
  rfl
section
variable {W1 w w' : World} {sb : Nat} {s : SD} {t bb ob nb : Nat} {n : Int} {l : Prs} {Ad : Nat → Addr}
/-- One more is spawned. -/
theorem jn_spawn {i : Nat} {L : Nat → List Prt} {x : Bei} (h : Jn W1 sb s t bb ob nb n l w) (hE : Env8 W1 Ad) (ht : t ≤ 900) (hR : Run 64 i L s) (hi : i < 64) (hL : L i = bL x 8) (hx : x.wf) {v : Value} (hv : Prts w.heap.size w' v (bL x 8)) (hb : Below w.heap.size w w') :
    Calls Tryz.prog 18 #[.pointer (some ⟨sb, 0, none⟩), v] w' fun e w2 => e = .returned (.tuple #[.agg #[.int .i64 (i : Int), .int .i64 1], .nilIface]) ∧ ∃ s', Run 64 (i + 1) L s' ∧ Jn W1 sb s' (t + 1) bb ob nb n l w2 := by
  obtain ⟨o1, o2, o3, q⟩ := h.aw
  have hl := bL_len x 8
  refine (So.aw_spawn2 q hE ht hv hb (by omega) (by rw [hR.ws]; exact bL_chk x) (bL_tick hx) (hR.split hi) (hR.zero hi)).mono ?_
  rintro e w2 ⟨rfl, r⟩
  rw [bL_sort hx, ← hL] at r
  exact ⟨rfl, _, hR.step hi, Jn.mk' h.bg q r⟩
/-- One more is numbered. -/
theorem jn_give {nm : Nat → Bool} {i : Nat} (h : Jn W1 sb s t bb ob nb ((gvN nm i : Int) + 1) (gvL nm i) w) (hi : i < 100) (hn : nm i = true) :
    Calls Tryz.prog 24 #[.pointer (some ⟨bb, 0, none⟩), .agg #[.int .i64 (i : Int), .int .i64 1]] w fun e w2 => ∃ m, e = .returned (.tuple #[.int .i64 m, .nilIface]) ∧ Jn W1 sb s t bb ob nb ((gvN nm (i + 1) : Int) + 1) (gvL nm (i + 1)) w2 := by
  have hle := gvN_le nm i
  refine (Bd.give_ok h.bg (i : Int) 1 (Bd.I64_mid (by omega) (by omega)) (Bd.I64_mid (by omega) (by omega)) (num_none fun p hp e => ?_) (by omega)).mono ?_
  · obtain ⟨j, h1, -, rfl⟩ := (gvL_mem nm p i).1 hp
    simp at e
    omega
  · rintro e w2 ⟨rfl, hg, hs⟩
    refine ⟨_, rfl, ?_⟩
    have e1 : gvN nm (i + 1) = gvN nm i + 1 := by simp [gvN, hn]
    have e2 : gvL nm (i + 1) = ins ((gvN nm i : Int) + 1, (i : Int), 1) (gvL nm i) := by
      rw [ins_last]
      · simp [gvL, hn]
      · intro p hp
        obtain ⟨j, h1, h2, rfl⟩ := (gvL_mem nm p i).1 hp
        have := gvN_mono nm (show j + 1 ≤ i by omega)
        have e3 : gvN nm (j + 1) = gvN nm j + 1 := by simp [gvN, h2]
        show (gvN nm j : Int) + 1 < (gvN nm i : Int) + 1
        omega
    rw [e1, e2]
    have := h.badge hg hs
    rw [show ((gvN nm i + 1 : Nat) : Int) + 1 = (gvN nm i : Int) + 1 + 1 by omega]
    exact this
end
end Go.Proofs.YtoafpfheopgdkaaGreatDoor.Qr
namespace Go.Proofs.YtoafpfheopgdkaaGreatDoor.Qr
open Go.RowKit Go.Shelf Go.Maps
open Go.Proofs.YtoafpfheopgdkaaGreatDoor.At (St bAl cell_blk blk_seen blk_free mtB an)
open Go.Proofs.YtoafpfheopgdkaaGreatDoor.Ro (Ents)
open Go.Proofs.YtoafpfheopgdkaaGreatDoor.Rs (SD Prt Prts PRow mskP fitP)
open Go.Proofs.YtoafpfheopgdkaaGreatDoor.So (Aw Sto CV Fr al Run ones sortP chkL matched)
open Go.Proofs.YtoafpfheopgdkaaGreatDoor.Bd (Bg Prs okP who num ins IRow irow_of)
open Go.Proofs.YtoafpfheopgdkaaGreatDoor.Qu (J64 Bei bL bL_mem bL_len bL_wf meansB)
/-- The number of an entity that is meant. -/
def pick (l : Prs) (s : SD) (a b c : Nat) (fr : Int) (e : Nat × Nat) : Option Int := if meansB a b c fr (s.at e.1) = true then num l ((e.1 : Int), (e.2 : Int)) else none
def zsL (l : Prs) (s : SD) (a b c : Nat) (fr : Int) (M : List (Nat × Nat)) : List Int := M.filterMap (pick l s a b c fr)
theorem zs_next (l : Prs) (s : SD) (a b c : Nat) (fr : Int) {M : List (Nat × Nat)} {k : Nat} {e : Nat × Nat} (h : M[k]? = some e) : zsL l s a b c fr (M.take (k + 1)) = zsL l s a b c fr (M.take k) ++ (pick l s a b c fr e).toList := by
  obtain ⟨hl, rfl⟩ := List.getElem?_eq_some_iff.1 h
  unfold zsL
  rw [List.take_succ_eq_append_getElem hl, List.filterMap_append]
  congr 1
theorem zs_len (l : Prs) (s : SD) (a b c : Nat) (fr : Int) (M : List (Nat × Nat)) : (zsL l s a b c fr M).length ≤ M.length := List.length_filterMap_le _ _
def srt (xs : List Int) : List Int := xs.mergeSort fun x y => decide (x ≤ y)
set_option maxHeartbeats 6400000 in
set_option maxRecDepth 100000 in
theorem run_any {W1 w : World} {sb : Nat} {s : SD} {t bb ob nb : Nat} {n : Int} {l : Prs} (h : Jn W1 sb s t bb ob nb n l w) (a b c : Nat) (ha : a < 4294967296) (hb : b < 4294967296) (hc : c < 4294967296) (fr : Int) (hfr : J64 fr)
    (hM : ∀ x ∈ matched s a b, al s x.1 x.2 ∧ x.1 < 100 ∧ x.2 < 100 ∧ (∀ p ∈ s.at x.1, J64 p.c ∧ J64 p.t) ∧ (s.at x.1).length ≤ 1000) (hm : (matched s a b).length ≤ 100) :
    Calls Tryz.prog 10 #[.pointer (some ⟨sb, 0, none⟩), .pointer (some ⟨bb, 0, none⟩), .agg #[.int .u32 (a : Int), .int .u32 (b : Int), .int .u32 (c : Int)], .int .i64 fr] w fun e w' => ∃ va vc, e = .returned (.slice va (srt (zsL l s a b c fr (matched s a b))).length vc) ∧ IRow w' (.slice va (srt (zsL l s a b c fr (matched s a b))).length vc) (srt (zsL l s a b c fr (matched s a b))) ∧ Below w.heap.size w w' := by
  obtain ⟨w1, hw1⟩ : ∃ w1, w1 = w.alloc (.cells #[.int .u32 (a : Int), .int .u32 (b : Int), .int .u32 (c : Int)] 26) := ⟨_, rfl⟩
  have b1 : Below w.heap.size w w1 := by rw [hw1]; exact bAl _ _
  have R1 : Hid (w1.heap[w.heap.size]? = some (.cells #[.int .u32 (a : Int), .int .u32 (b : Int), .int .u32 (c : Int)] 26 (0, 0))) := by rw [hw1]; exact heap_alloc_new w _
  have H1 := hid (h.later b1)
  have SM : Hid (Calls Tryz.prog 26 #[.pointer (some ⟨sb, 0, none⟩), .int .u32 (a : Int), .int .u32 (b : Int)] w1 fun e W' => ∃ v, e = .returned v ∧ Ents w1.heap.size W' v (matched s a b) ∧ Below w1.heap.size w1 W') := by
    obtain ⟨o1, o2, o3, q⟩ := H1.out.aw
    obtain ⟨cv, e1, -, -⟩ := q.ex
    exact So.smatch_any e1 a b ha hb
  have x0 : w1.cell? ⟨w.heap.size, 0, none⟩ = some (.int .u32 (a : Int)) := cell_blk R1.out rfl
  have x1 : w1.cell? ⟨w.heap.size, 1, none⟩ = some (.int .u32 (b : Int)) := cell_blk R1.out rfl
  have HW1 := hid hw1
  have B1 := hid b1
  have HM := hid hM
  clear hw1 b1 h hM
  go_enter Tryz.func10, Tryz.ntmps10
  go_upto_region 1 with fail
  rw [← HW1.out]
  go_wp2_with fail
  refine SM.out.mono ?_
  rintro e w2 ⟨mv, rfl, he2, b2⟩
  obtain ⟨ma, mc, rfl⟩ := he2.slice
  obtain ⟨M, HMM⟩ : ∃ M, Hid (matched s a b = M) := ⟨_, hid rfl⟩
  rw [HMM.out] at HM hm he2 ⊢
  have E2 := hid he2
  have B2 := hid b2
  have H2 := hid (H1.out.later b2)
  have BW2 := hid (B1.out.trans (b2.mono B1.out.size))
  have R2 := hid (blk_seen b2 (Nat.le_refl _) R1.out)
  have hmi : (M.length : Int) ≤ 100 := by omega
  clear he2 b2 SM x0 x1 R1 H1 B1
  go_wp2_with fail
  go_loopg [9, 11, 12, 13, 14, 15, 23] M.length (fun gh v _ _ _ _ _ q wr => ∃ k : Nat, k ≤ M.length ∧ gh = M.length - k ∧ q = .int .i64 (k : Int) ∧ Hid (Nums w2.heap.size wr v (zsL l s a b c fr (M.take k))) ∧ Hid (Below w2.heap.size w2 wr))
  case atStart => exact ⟨0, Nat.zero_le _, rfl, rfl, by show World.ownsRow _ _ _ _ _ _ _; simpa [zsL] using World.ownsRow_nil _ _ _ _, Below.refl _ _⟩
  case round =>
    rename World => wr
    obtain ⟨k, hk, rfl, rfl, HN, HB⟩ := hrel
    obtain ⟨va, vc, rfl⟩ := own_slice HN.out
    by_cases hlt : k < M.length
    · have hki : (k : Int) < (M.length : Int) := by omega
      obtain ⟨⟨i, g⟩, hx⟩ := at_lt M k hlt
      obtain ⟨gg, rfl, -, -⟩ := (E2.out.later HB.out).some (by omega)
      obtain ⟨d0, d1⟩ := (E2.out.later HB.out).cell hx
      obtain ⟨hal, hi100, hg100, hJ, hJl⟩ := HM.out _ (List.mem_of_getElem? hx)
      have ZN := hid (zs_next l s a b c fr hx)
      have ZL := zs_len l s a b c fr (M.take k)
      have hul : (zsL l s a b c fr (M.take k)).length ≤ 1000 := by simp at ZL; omega
      generalize zsL l s a b c fr (M.take k) = xs at *
      obtain ⟨w4, hw4⟩ : ∃ w4, w4 = wr.alloc (.cells #[.int .i64 (i : Int), .int .i64 (g : Int)] 58) := ⟨_, rfl⟩
      have b4 : Below wr.heap.size wr w4 := by rw [hw4]; exact bAl _ _
      have R4 : Hid (w4.heap[wr.heap.size]? = some (.cells #[.int .i64 (i : Int), .int .i64 (g : Int)] 58 (0, 0))) := by rw [hw4]; exact heap_alloc_new wr _
      have B4 := hid (HB.out.trans (b4.mono HB.out.size))
      have H4 := hid (H2.out.later B4.out)
      have N4 := hid (HN.out.later b4)
      have y0 : w4.cell? ⟨wr.heap.size, 0, none⟩ = some (.int .i64 (i : Int)) := cell_blk R4.out rfl
      have y1 : w4.cell? ⟨wr.heap.size, 1, none⟩ = some (.int .i64 (g : Int)) := cell_blk R4.out rfl
      have IDC := hid (Bd.id_any H4.out.bg (i : Int) (g : Int) (Bd.I64_mid (by omega) (by omega)) (Bd.I64_mid (by omega) (by omega)))
      have HW4 := hid hw4
      have HAL := hid hal
      have HJ := hid hJ
      have HJL := hid hJl
      clear hx hw4 b4 ZL hal hJ hJl HN HB
      change Hid (_ = xs ++ (if meansB a b c fr (s.at i) = true then num l ((i : Int), (g : Int)) else none).toList) at ZN
      go_upto_region 5 with fail
      rw [← HW4.out]
      clear HW4 d0 d1
      generalize wr.heap.size = eb at *
      cases hn : num l ((i : Int), (g : Int)) with
      | none =>
        rw [hn] at IDC ZN
        have Z2 : Hid (zsL l s a b c fr (M.take (k + 1)) = xs) := by show _ = _; rw [ZN.out]; split <;> simp
        clear hn ZN
        go_wp2_with fail
        refine IDC.out.mono ?_
        rintro e w5 ⟨rfl, b5⟩
        have B5 := hid (B4.out.trans (b5.mono B4.out.size))
        have N5 := hid (N4.out.later b5)
        clear IDC b5 y0 y1
        go_wp2_with fail
        go_roundg (M.length - (k + 1))
        case measure => omega
        case rel => exact ⟨k + 1, by omega, rfl, by go_num, by rw [Z2.out]; exact N5.out, B5.out⟩
      | some id =>
        rw [hn] at IDC ZN
        clear hn
        have IDC' : Hid (Calls Tryz.prog 27 #[.pointer (some ⟨bb, 0, none⟩), .agg #[.int .i64 (i : Int), .int .i64 (g : Int)]] w4 fun e W' => e = .returned (.tuple #[.int .i64 id, .bool true]) ∧ Below w4.heap.size w4 W') := IDC.out
        clear IDC
        go_wp2_with fail
        refine IDC'.out.mono ?_
        rintro e w5 ⟨rfl, b5⟩
        have B5 := hid (B4.out.trans (b5.mono B4.out.size))
        have N5 := hid (N4.out.later b5)
        have H5 := hid (H4.out.later b5)
        have r5 := blk_seen b5 (Nat.le_refl _) R4.out
        have y0 : w5.cell? ⟨eb, 0, none⟩ = some (.int .i64 (i : Int)) := cell_blk r5 rfl
        have y1 : w5.cell? ⟨eb, 1, none⟩ = some (.int .i64 (g : Int)) := cell_blk r5 rfl
        have PC : Hid (Calls Tryz.prog 28 #[.pointer (some ⟨sb, 0, none⟩), .agg #[.int .i64 (i : Int), .int .i64 (g : Int)]] w5 fun e W' => ∃ v, e = .returned (.tuple #[v, .nilIface]) ∧ Prts w5.heap.size W' v (s.at i) ∧ Below w5.heap.size w5 W') := by
          obtain ⟨o1, o2, o3, q⟩ := H5.out.aw
          obtain ⟨cv, e1, -, -⟩ := q.ex
          exact So.parts_ok e1 HAL.out
        clear IDC' b5 r5 R4 N4 B4 H4
        go_wp2_with fail
        refine PC.out.mono ?_
        rintro e w6 ⟨pv, rfl, hp6, b6⟩
        have B6 := hid (B5.out.trans (b6.mono B5.out.size))
        have N6 := hid (N5.out.later b6)
        have MN := hid (Qu.means_any a b c ha hb hc fr hfr hp6.row HJL.out HJ.out)
        obtain ⟨pa, pc, rfl⟩ := hp6.slice
        have r6 := blk_seen B6.out (Nat.le_refl _) R2.out
        have z0 : w6.cell? ⟨w.heap.size, 0, none⟩ = some (.int .u32 (a : Int)) := cell_blk r6 rfl
        have z1 : w6.cell? ⟨w.heap.size, 1, none⟩ = some (.int .u32 (b : Int)) := cell_blk r6 rfl
        have z2 : w6.cell? ⟨w.heap.size, 2, none⟩ = some (.int .u32 (c : Int)) := cell_blk r6 rfl
        clear PC hp6 b6 r6 B5 N5 H5 y0 y1
        go_wp2_with fail
        refine MN.out.mono ?_
        rintro e w7 ⟨rfl, b7⟩
        have B7 := hid (B6.out.trans (b7.mono B6.out.size))
        have N7 := hid (N6.out.later b7)
        have hB7 : w2.heap.size ≤ w7.heap.size := B7.out.size
        clear MN b7 z0 z1 z2 N6 B6
        cases hz : meansB a b c fr (s.at i) with
        | false =>
          have Z2 : Hid (zsL l s a b c fr (M.take (k + 1)) = xs) := by show _ = _; rw [ZN.out, hz]; simp
          clear hz ZN
          go_wp2_with fail
          go_roundg (M.length - (k + 1))
          case measure => omega
          case rel => exact ⟨k + 1, by omega, rfl, by go_num, by rw [Z2.out]; exact N7.out, B7.out⟩
        | true =>
          have Z2 : Hid (zsL l s a b c fr (M.take (k + 1)) = xs ++ [id]) := by show _ = _; rw [ZN.out, hz]; simp
          clear hz ZN
          go_wp2_with (at_builtin; refine wpList_numI (y := id) rfl _ _ rfl N7.out hul (by exact hB7) rfl rfl ?_; intro v8 w8 H8 S8)
          have B8 := hid (bel_num B7.out N7.out S8.out)
          go_roundg (M.length - (k + 1))
          case measure => omega
          case rel => exact ⟨k + 1, by omega, rfl, by go_num, by rw [Z2.out]; exact H8.out, B8.out⟩
    · have hki : ¬ ((k : Int) < (M.length : Int)) := by omega
      have ZL := zs_len l s a b c fr (M.take k)
      have hz : M.take k = M := List.take_of_length_le (by omega)
      rw [hz] at HN ZL ⊢
      obtain ⟨xs, HX⟩ : ∃ xs, Hid (zsL l s a b c fr M = xs) := ⟨_, hid rfl⟩
      rw [HX.out] at HN ZL ⊢
      have SO := hid (isort_any HN.out (by omega))
      have hln : (srt xs).length = xs.length := by unfold srt; simp
      clear hz
      go_wp2_with fail
      refine SO.out.mono ?_
      rintro e w9 ⟨rfl, o9, s9⟩
      have B9 := hid (BW2.out.trans ((bel_num HB.out HN.out s9).mono BW2.out.size))
      have I9 : Hid (IRow w9 (.slice va (srt xs).length vc) (srt xs)) := irow_of (B := w2.heap.size) (by rw [hln]; exact o9)
      clear SO o9 s9
      go_wp2_with fail
      go_ret
      rw [HMM.out, HX.out]
      exact ⟨va, vc, by rw [hln]; rfl, I9.out, B9.out⟩
end Go.Proofs.YtoafpfheopgdkaaGreatDoor.Qr
namespace Go.Proofs.YtoafpfheopgdkaaGreatDoor.Qr
open Go.RowKit Go.Shelf Go.Maps
open Go.Proofs.YtoafpfheopgdkaaGreatDoor.At (St bAl cell_blk blk_seen blk_free mtB an)
open Go.Proofs.YtoafpfheopgdkaaGreatDoor.Rs (SD Prt Prts PRow mskP fitP)
open Go.Proofs.YtoafpfheopgdkaaGreatDoor.So (Aw Sto CV Fr al Run ones sortP chkL matched)
open Go.Proofs.YtoafpfheopgdkaaGreatDoor.Bd (Bg Prs okP who num ins IRow irow_of)
open Go.Proofs.YtoafpfheopgdkaaGreatDoor.Qu (J64 Bei bL bL_mem bL_len bL_wf meansB eightL eight_any)
/-- A row of entities of a query in memory. -/
def BRow (W : World) (v : Value) (xs : List Bei) : Prop := (∀ x ∈ xs, x.wf) ∧ ∃ a c, v = .slice a xs.length c ∧ (xs = [] ∨ ∃ b o, a = some ⟨b, o, none⟩ ∧ ∀ (j : Nat) (x : Bei), xs[j]? = some x → ∀ i, i < 10 → W.cell? ⟨b, o + j * 10 + i, none⟩ = x.arr[i]?)
theorem BRow.later {W W' : World} {v : Value} {xs : List Bei} (h : BRow W v xs) (hb : Below W.heap.size W W') : BRow W' v xs := by
  obtain ⟨h0, a, c, h1, h2⟩ := h
  refine ⟨h0, a, c, h1, ?_⟩
  rcases h2 with h2 | ⟨b, o, h2, h3⟩
  · exact .inl h2
  · refine .inr ⟨b, o, h2, fun j x hj i hi => ?_⟩
    have q := h3 j x hj i hi
    obtain ⟨u, hu⟩ : ∃ u, x.arr[i]? = some u := ⟨x.arr[i]'(by simp [Bei.arr]; omega), Array.getElem?_eq_getElem _⟩
    rw [hu] at q ⊢
    exact At.seen hb (Nat.le_refl _) q
def nmF (xs : List Bei) (j : Nat) : Bool := match xs[j]? with | some x => x.nm | none => false
def paF (xs : List Bei) (j : Nat) : List Prt := match xs[j]? with | some x => bL x 8 | none => []
theorem nm_at {xs : List Bei} {j : Nat} {x : Bei} (h : xs[j]? = some x) : nmF xs j = x.nm := by simp [nmF, h]
theorem pa_at {xs : List Bei} {j : Nat} {x : Bei} (h : xs[j]? = some x) : paF xs j = bL x 8 := by simp [paF, h]
theorem eight_ok : Sc.checkL (eightL 8) [] = [] := by kernel_rfl
theorem eight_ws : (eightL 8).map (fun c => c.wd) = ones.map fun (w : Nat) => (w : Int) := by kernel_rfl
theorem eight_w : Rs.okW ones := ⟨by decide, fun w hw => by simp [ones] at hw; subst hw; decide⟩
theorem eight_small : Sc.SmallC (eightL 8) ∧ Sc.SmallQ [] := by
  refine ⟨⟨by decide, fun c hc => ?_⟩, by decide, fun c hc => by simp at hc⟩
  obtain ⟨j, hj, rfl⟩ := List.mem_map.1 hc
  have hj : j < 8 := by simpa using hj
  have : j = 0 ∨ j = 1 ∨ j = 2 ∨ j = 3 ∨ j = 4 ∨ j = 5 ∨ j = 6 ∨ j = 7 := by omega
  rcases this with rfl | rfl | rfl | rfl | rfl | rfl | rfl | rfl <;> decide
/-- Behind laid. -/
structure Ld (xs : List Bei) (m : Nat) (w w' : World) (sb bb : Nat) : Prop where
  ex : ∃ W1 s ob nb, Below w.heap.size w W1 ∧ Run 64 m (paF xs) s ∧ Jn W1 sb s m bb ob nb ((gvN (nmF xs) m : Int) + 1) (gvL (nmF xs) m) w'
set_option maxHeartbeats 6400000 in
set_option maxRecDepth 100000 in
theorem laid_any (w : World) (Ad : Nat → Addr) (hE : Env8 w Ad) (v : Value) (xs : List Bei) (hB : BRow w v xs) :
    Calls Tryz.prog 7 #[v] w fun e w' => ∃ sb bb, e = .returned (.tuple #[.pointer (some ⟨sb, 0, none⟩), .pointer (some ⟨bb, 0, none⟩)]) ∧ Ld xs (min xs.length 60) w w' sb bb ∧ Below w.heap.size w w' := by
  have HB0 := hid hB
  have HE := hid hE
  obtain ⟨-, a, c, rfl, -⟩ := hB
  have EI := hid (eight_any w)
  clear hE
  go_enter Tryz.func7, Tryz.ntmps7
  go_wp2_with fail
  refine EI.out.mono ?_
  rintro e w2 ⟨va, rfl, hC, b2⟩
  have B2 := hid b2
  have E2 := hid (HE.out.later b2)
  have NW := hid (So.new_ok Ad w2 va (.slice none 0 0) (eightL 8) [] E2.out hC ⟨none, 0, rfl, Nat.le_refl _, .inl rfl⟩ eight_small.1 eight_small.2 eight_ok ones eight_ws eight_w 64 (by decide))
  obtain ⟨xa, xc, rfl, -, -⟩ := hC
  clear b2 EI
  go_wp2_with fail
  refine NW.out.mono ?_
  rintro e w3 ⟨sb, rfl, hn⟩
  have A3 := hid (So.aw_new hn)
  have BN := hid (Bd.new_any w3)
  clear hn NW
  go_wp2_with fail
  refine BN.out.mono ?_
  rintro e w4 ⟨bb, ob, nb, rfl, h4, b4⟩
  have J4 := hid (Jn.new A3.out h4 b4)
  clear BN h4 b4 A3
  go_upto_block 0 with fail
  go_cut [7, 8, 9] from 22 to 51 (fun _ _ _ wx => ∃ s, Hid (Run 64 (min xs.length 60) (paF xs) s) ∧ Hid (Jn w2 sb s (min xs.length 60) bb ob nb ((gvN (nmF xs) (min xs.length 60) : Int) + 1) (gvL (nmF xs) (min xs.length 60)) wx))
  case first =>
    go_wp2_with fail
    go_loopg [7, 8, 9] 60 (fun gh i _ _ wr => ∃ k : Nat, k ≤ min xs.length 60 ∧ gh = 60 - k ∧ i = .int .i64 (k : Int) ∧ ∃ s, Hid (Run 64 k (paF xs) s) ∧ Hid (Jn w2 sb s k bb ob nb ((gvN (nmF xs) k : Int) + 1) (gvL (nmF xs) k) wr))
    case atStart => exact ⟨0, Nat.zero_le _, rfl, rfl, So.madeS ones 64, So.run_new _ (by decide), J4.out⟩
    case round =>
      clear J4
      rename World => wr
      obtain ⟨k, hk, rfl, rfl, s, HR, HJ⟩ := hrel
      have BR := hid (B2.out.trans (HJ.out.bel.mono B2.out.size))
      by_cases h1 : k < xs.length
      · have h1i : (k : Int) < (xs.length : Int) := by omega
        by_cases h2 : k < 60
        · have h2i : (k : Int) < 60 := by omega
          obtain ⟨x, hx⟩ := at_lt xs k h1
          have hwf := HB0.out.1 x (List.mem_of_getElem? hx)
          obtain ⟨b, o, rfl, dd⟩ : ∃ b o, a = some ⟨b, o, none⟩ ∧ ∀ W', Below w.heap.size w W' → ∀ i, i < 10 → W'.cell? ⟨b, o + k * 10 + i, none⟩ = x.arr[i]? := by
            obtain ⟨-, a', c', hv, hl⟩ := HB0.out
            obtain ⟨rfl, rfl⟩ : a = a' ∧ c = c' := by simpa using hv
            rcases hl with h | ⟨b, o, h4, h5⟩
            · rw [h] at h1; simp at h1
            · refine ⟨b, o, h4, fun W' hb i hi => ?_⟩
              have q := h5 k x hx i hi
              obtain ⟨u, hu⟩ : ∃ u, x.arr[i]? = some u := ⟨x.arr[i]'(by simp [Bei.arr]; omega), Array.getElem?_eq_getElem _⟩
              rw [hu] at q ⊢
              exact At.seen hb (Nat.le_refl _) q
          have d0 : wr.cell? ⟨b, o + k * 10, none⟩ = some (.int .u32 (x.m : Int)) := dd wr BR.out 0 (by decide)
          have d1 : wr.cell? ⟨b, o + k * 10 + 1, none⟩ = some (.int .i64 x.t0) := dd wr BR.out 1 (by decide)
          have d2 : wr.cell? ⟨b, o + k * 10 + 2, none⟩ = some (.int .i64 x.t1) := dd wr BR.out 2 (by decide)
          have d3 : wr.cell? ⟨b, o + k * 10 + 3, none⟩ = some (.int .i64 x.t2) := dd wr BR.out 3 (by decide)
          have d4 : wr.cell? ⟨b, o + k * 10 + 4, none⟩ = some (.int .i64 x.t3) := dd wr BR.out 4 (by decide)
          have d5 : wr.cell? ⟨b, o + k * 10 + 5, none⟩ = some (.int .i64 x.t4) := dd wr BR.out 5 (by decide)
          have d6 : wr.cell? ⟨b, o + k * 10 + 6, none⟩ = some (.int .i64 x.t5) := dd wr BR.out 6 (by decide)
          have d7 : wr.cell? ⟨b, o + k * 10 + 7, none⟩ = some (.int .i64 x.t6) := dd wr BR.out 7 (by decide)
          have d8 : wr.cell? ⟨b, o + k * 10 + 8, none⟩ = some (.int .i64 x.t7) := dd wr BR.out 8 (by decide)
          have d9 : wr.cell? ⟨b, o + k * 10 + 9, none⟩ = some (.bool x.nm) := dd wr BR.out 9 (by decide)
          have D9 : Hid (∀ W', Below w.heap.size w W' → W'.cell? ⟨b, o + k * 10 + 9, none⟩ = some (.bool x.nm)) := fun W' hb => dd W' hb 9 (by decide)
          have PC := hid (Qu.bparts_any wr x)
          have SP := hid (fun v w' (hv : Prts wr.heap.size w' v (bL x 8)) (hb : Below wr.heap.size wr w') => jn_spawn HJ.out E2.out (by omega) HR.out (by omega) (pa_at hx) hwf hv hb)
          have NM := hid (nm_at hx)
          unfold Bei.val at PC
          clear hx hwf dd
          go_wp2_with fail
          refine PC.out.mono ?_
          rintro e w5 ⟨u, rfl, hu, hb5⟩
          have SQ := hid (SP.out u w5 hu hb5)
          obtain ⟨ua, uc, rfl⟩ := hu.slice
          clear PC SP hu hb5 d0 d1 d2 d3 d4 d5 d6 d7 d8 d9
          go_wp2_with fail
          refine SQ.out.mono ?_
          rintro e w6 ⟨rfl, s', hR6, hJ6⟩
          obtain ⟨w7, hw7⟩ : ∃ w7, w7 = w6.alloc (.cells #[.int .i64 (k : Int), .int .i64 1] 58) := ⟨_, rfl⟩
          have b7 : Below w6.heap.size w6 w7 := by rw [hw7]; exact bAl _ _
          have r7 : w7.heap[w6.heap.size]? = some (.cells #[.int .i64 (k : Int), .int .i64 1] 58 (0, 0)) := by rw [hw7]; exact heap_alloc_new w6 _
          have R6 := hid hR6
          have J7 := hid (hJ6.later b7)
          have y0 : w7.cell? ⟨w6.heap.size, 0, none⟩ = some (.int .i64 (k : Int)) := cell_blk r7 rfl
          have y1 : w7.cell? ⟨w6.heap.size, 1, none⟩ = some (.int .i64 1) := cell_blk r7 rfl
          have d9 := D9.out w7 (B2.out.trans (J7.out.bel.mono B2.out.size))
          have HW7 := hid hw7
          clear SQ hR6 hJ6 hw7 b7 r7 HR HJ
          go_upto_region 9 with fail
          rw [← HW7.out]
          clear HW7
          generalize w6.heap.size = eb at *
          cases hnm : x.nm with
          | true =>
            rw [hnm] at d9 NM
            have GV := hid (jn_give J7.out (by omega) NM.out)
            clear hnm
            go_wp2_with fail
            refine GV.out.mono ?_
            rintro e w8 ⟨m8, rfl, hJ8⟩
            have J8 : Hid (Jn w2 sb s' (k + 1) bb ob nb ((gvN (nmF xs) (k + 1) : Int) + 1) (gvL (nmF xs) (k + 1)) w8) := hJ8
            clear GV hJ8 y0 y1 d9
            go_wp2_with fail
            go_roundg (60 - (k + 1))
            case measure => omega
            case rel => exact ⟨k + 1, by omega, rfl, by go_num, s', R6.out, J8.out⟩
          | false =>
            rw [hnm] at d9 NM
            have J8 : Hid (Jn w2 sb s' (k + 1) bb ob nb ((gvN (nmF xs) (k + 1) : Int) + 1) (gvL (nmF xs) (k + 1)) w7) := by
              have q := J7.out
              have e1 : gvN (nmF xs) (k + 1) = gvN (nmF xs) k := by simp [gvN, NM.out]
              have e2 : gvL (nmF xs) (k + 1) = gvL (nmF xs) k := by simp [gvL, NM.out]
              show Jn _ _ _ _ _ _ _ _ _ _
              rw [e1, e2]
              exact q
            clear hnm y0 y1
            go_wp2_with fail
            go_roundg (60 - (k + 1))
            case measure => omega
            case rel => exact ⟨k + 1, by omega, rfl, by go_num, s', R6.out, J8.out⟩
        · have h2i : ¬ ((k : Int) < 60) := by omega
          obtain rfl : k = min xs.length 60 := by omega
          go_wp2_with fail
          go_meet
          exact ⟨s, HR.out, HJ.out⟩
      · have h1i : ¬ ((k : Int) < (xs.length : Int)) := by omega
        obtain rfl : k = min xs.length 60 := by omega
        go_wp2_with fail
        go_meet
        exact ⟨s, HR.out, HJ.out⟩
  case rest =>
    clear J4
    rename World => wx
    obtain ⟨s, HR, HJ⟩ := hcut
    have BF := hid (B2.out.trans (HJ.out.bel.mono B2.out.size))
    have LD : Hid (Ld xs (min xs.length 60) w wx sb bb) := ⟨w2, s, ob, nb, B2.out, HR.out, HJ.out⟩
    go_wp2_with fail
    go_ret2
    exact ⟨sb, bb, rfl, LD.out, BF.out⟩
end Go.Proofs.YtoafpfheopgdkaaGreatDoor.Qr
namespace Go.Proofs.YtoafpfheopgdkaaGreatDoor.Qr
open Go.RowKit Go.Shelf Go.Maps
open Go.Proofs.YtoafpfheopgdkaaGreatDoor.At (St bAl cell_blk blk_seen blk_free mtB an)
open Go.Proofs.YtoafpfheopgdkaaGreatDoor.Rs (SD Prt Prts PRow mskP fitP)
open Go.Proofs.YtoafpfheopgdkaaGreatDoor.So (Aw Sto CV Fr al Run ones sortP chkL matched)
open Go.Proofs.YtoafpfheopgdkaaGreatDoor.Bd (Bg Prs okP who num ins IRow irow_of)
open Go.Proofs.YtoafpfheopgdkaaGreatDoor.Qu (J64 Bei bL bL_mem bL_len bL_wf meansB)
/-- The numbers of those that were spawned so far, the last one first. -/
def gwL (nm : Nat → Bool) (N : Nat) : Nat → Prs
  | 0 => []
  | d + 1 => if nm (N - 1 - d) then ((gvN nm (N - 1 - d) : Int) + 1, (d : Int), 1) :: gwL nm N d else gwL nm N d
theorem gwL_mem (nm : Nat → Bool) (N : Nat) (p : Int × Int × Int) : ∀ d, p ∈ gwL nm N d ↔ ∃ j, j < d ∧ nm (N - 1 - j) = true ∧ p = ((gvN nm (N - 1 - j) : Int) + 1, (j : Int), 1)
  | 0 => by simp [gwL]
  | d + 1 => by
    have ih := gwL_mem nm N p d
    unfold gwL
    constructor
    · intro h
      split at h
      · rename_i hb
        rcases List.mem_cons.1 h with h | h
        · exact ⟨d, by omega, hb, h⟩
        · obtain ⟨j, h1, h2⟩ := ih.1 h; exact ⟨j, by omega, h2⟩
      · obtain ⟨j, h1, h2⟩ := ih.1 h; exact ⟨j, by omega, h2⟩
    · rintro ⟨j, h1, h2, h3⟩
      by_cases e : j = d
      · subst e; rw [if_pos h2, h3]; exact List.mem_cons_self ..
      · have := ih.2 ⟨j, by omega, h2, h3⟩
        split
        · exact List.mem_cons_of_mem _ this
        · exact this
theorem who_none {l : Prs} {id : Int} (h : ∀ x ∈ l, x.1 ≠ id) : who l id = none := by
  unfold who
  rw [List.find?_eq_none.2 fun x hx => by simpa using h x hx]
  rfl
theorem ins_first (p : Int × Int × Int) (l : Prs) (h : ∀ x ∈ l, p.1 < x.1) : ins p l = p :: l := by
  cases l with
  | nil => rfl
  | cons x l => unfold ins; rw [if_pos (h x (List.mem_cons_self ..))]
theorem gvN_lt (nm : Nat → Bool) {j k : Nat} (h : j < k) (hj : nm j = true) : gvN nm j + 1 ≤ gvN nm k := by
  have := gvN_mono nm (show j + 1 ≤ k by omega)
  have e : gvN nm (j + 1) = gvN nm j + 1 := by simp [gvN, hj]
  omega
section
variable {W1 w w' : World} {sb : Nat} {s : SD} {t bb ob nb : Nat} {n : Int} {l : Prs} {Ad : Nat → Addr}
/-- One more is pinned, the last number first. -/
theorem jn_pin {nm : Nat → Bool} {N d : Nat} (hN : N ≤ 100) (hd : d < N) (h : Jn W1 sb s t bb ob nb ((gvN nm N : Int) + 1) (gwL nm N d) w) (hn : nm (N - 1 - d) = true) :
    Calls Tryz.prog 19 #[.pointer (some ⟨bb, 0, none⟩), .int .i64 ((gvN nm (N - 1 - d) : Int) + 1), .agg #[.int .i64 (d : Int), .int .i64 1]] w fun e w2 => e = .returned .nilIface ∧ Jn W1 sb s t bb ob nb ((gvN nm N : Int) + 1) (gwL nm N (d + 1)) w2 := by
  have h1 := gvN_lt nm (show N - 1 - d < N by omega) hn
  have A : ∀ x ∈ gwL nm N d, (gvN nm (N - 1 - d) : Int) + 1 < x.1 := fun x hx => by
    obtain ⟨j, q1, q2, rfl⟩ := (gwL_mem nm N x d).1 hx
    have := gvN_lt nm (show N - 1 - d < N - 1 - j by omega) hn
    show (gvN nm (N - 1 - d) : Int) + 1 < (gvN nm (N - 1 - j) : Int) + 1
    omega
  refine (Bd.pin_ok h.bg ((gvN nm (N - 1 - d) : Int) + 1) (d : Int) 1 (Bd.I64_mid (by omega) (by omega)) (Bd.I64_mid (by omega) (by omega)) (by omega) (by omega) (who_none fun x hx e => by have := A x hx; omega) (num_none fun x hx e => ?_)).mono ?_
  · obtain ⟨j, q1, -, rfl⟩ := (gwL_mem nm N x d).1 hx
    simp at e
    omega
  · rintro e w2 ⟨rfl, hg, hs⟩
    refine ⟨rfl, ?_⟩
    have e2 : gwL nm N (d + 1) = ins ((gvN nm (N - 1 - d) : Int) + 1, (d : Int), 1) (gwL nm N d) := by
      rw [ins_first _ _ A]
      simp [gwL, hn]
    rw [e2]
    exact h.badge hg hs
theorem jn_turn (h : Jn W1 sb s t bb ob nb n [] w) (m : Nat) (hm : m ≤ 1000) :
    Calls Tryz.prog 17 #[.pointer (some ⟨bb, 0, none⟩), .int .i64 ((m : Int) + 1)] w fun e w2 => ∃ k, e = .returned (.tuple #[.int .i64 k, .nilIface]) ∧ Jn W1 sb s t bb ob nb ((m : Int) + 1) [] w2 := by
  refine (Bd.turn_ok h.bg ((m : Int) + 1) (by unfold Bd.turnB; simp; omega)).mono ?_
  rintro e w2 ⟨rfl, hg, hs⟩
  exact ⟨_, rfl, h.badge hg hs⟩
end
/-- What the numbers say of a place, there and the other way round. -/
theorem num_gv {nm : Nat → Bool} {m : Nat} {n : Int} (hok : okP n (gvL nm m)) {j : Nat} (hj : j < m) : num (gvL nm m) ((j : Int), 1) = if nm j then some ((gvN nm j : Int) + 1) else none := by
  split
  · rename_i h
    exact (hok.num _ _).2 ((gvL_mem nm _ m).2 ⟨j, hj, h, rfl⟩)
  · rename_i h
    refine num_none fun x hx e => ?_
    obtain ⟨i, q1, q2, rfl⟩ := (gvL_mem nm x m).1 hx
    simp at e
    obtain rfl : i = j := by omega
    exact h q2
theorem num_gw {nm : Nat → Bool} {N : Nat} {n : Int} (hok : okP n (gwL nm N N)) {d : Nat} (hd : d < N) : num (gwL nm N N) ((d : Int), 1) = if nm (N - 1 - d) then some ((gvN nm (N - 1 - d) : Int) + 1) else none := by
  split
  · rename_i h
    exact (hok.num _ _).2 ((gwL_mem nm N _ N).2 ⟨d, hd, h, rfl⟩)
  · rename_i h
    refine num_none fun x hx e => ?_
    obtain ⟨i, q1, q2, rfl⟩ := (gwL_mem nm N x N).1 hx
    simp at e
    obtain rfl : i = d := by omega
    exact h q2
/-- The number of one that is meant. -/
def wn (xs : List Bei) (a b c : Nat) (fr : Int) (j : Nat) : Option Int := if meansB a b c fr (paF xs j) = true then (if nmF xs j then some ((gvN (nmF xs) j : Int) + 1) else none) else none
/-- What Run gathers, if the entities are those of a function, in their order. -/
theorem zs_run {s : SD} {m : Nat} {P : Nat → List Prt} {g : Nat → Option Int} {l : Prs} {a b c : Nat} {fr : Int} (hR : Run 64 m P s) (hm : ∀ j, j < m → meansB a b c fr (P j) = true → mtB a b (mskP (P j)) = true) (hg : ∀ j, j < m → (if meansB a b c fr (P j) = true then num l ((j : Int), 1) else none) = g j) :
    zsL l s a b c fr (matched s a b) = (List.range m).filterMap g := by
  unfold zsL matched
  rw [hR.all, List.filter_map, List.filterMap_map]
  have key : ∀ (r : List Nat), (∀ j ∈ r, j < m) → (r.filter ((fun x => mtB a b (mskP (s.at x.1))) ∘ fun j => (j, 1))).filterMap (pick l s a b c fr ∘ fun j => (j, 1)) = r.filterMap g := by
    intro r
    induction r with
    | nil => intro _; rfl
    | cons j r ih =>
      intro hr
      have hj := hr j (List.mem_cons_self ..)
      have ih' := ih fun x hx => hr x (List.mem_cons_of_mem _ hx)
      have e1 : s.at j = P j := hR.row j hj
      have e2 := hg j hj
      have e3 : pick l s a b c fr (j, 1) = g j := by unfold pick; rw [e1]; exact e2
      rw [List.filterMap_cons]
      by_cases q : mtB a b (mskP (P j)) = true
      · rw [List.filter_cons_of_pos (by simpa [e1] using q), List.filterMap_cons]
        have e4 : (pick l s a b c fr ∘ fun j => (j, 1)) j = g j := e3
        rw [e4, ih']
      · rw [List.filter_cons_of_neg (by simpa [e1] using q), ih']
        have : g j = none := by
          rw [← e2, if_neg]
          intro z; exact q (hm j hj z)
        rw [this]
  exact key _ fun j hj => by simpa using hj
theorem rev_range (N : Nat) (g : Nat → Option Int) : (List.range N).filterMap (fun d => g (N - 1 - d)) = ((List.range N).filterMap g).reverse := by
  rw [← List.filterMap_reverse]
  have e : (List.range N).reverse = (List.range N).map fun d => N - 1 - d := by
    apply List.ext_getElem (by simp)
    intro i h1 h2
    simp at h1 h2 ⊢
  rw [e, List.filterMap_map]
  rfl
theorem srt_rev (xs : List Int) : srt xs.reverse = srt xs := mergeSort_of_perm_i (List.reverse_perm xs)
end Go.Proofs.YtoafpfheopgdkaaGreatDoor.Qr
