/- Check of a filter. -/
import Derived.Test.YtfabmleiibnhdaaDoorQuQe
import Derived.Test.YtfabmleiibnhdaaDoorScUa
import Derived.Deep.RegionHeld3
import Derived.Deep.DrawnRows
namespace Go.Proofs.YtfabmleiibnhdaaDoor.Qu
open Go.RowKit Go.Shelf Go.Maps
open Go.Proofs.YtfabmleiibnhdaaDoor.At (St bAl cell_blk blk_seen blk_free an wi pow32 bits_or32 bits_and32 within_nat cast_beq0 wi_lt)
open Go.Proofs.YtfabmleiibnhdaaDoor.Sc (Cmp CmpRow kindM orI rollback_any)
/-- The rolled back components below k. -/
def rolN (cs : List Cmp) : Nat → Nat
  | 0 => 0
  | k + 1 => match cs[k]? with | some c => if c.rb == true then wi (rolN cs k) k else rolN cs k | none => rolN cs k
theorem rolN_lt (cs : List Cmp) : ∀ k, k ≤ 32 → rolN cs k < 4294967296
  | 0, _ => by simp [rolN]
  | k + 1, h => by
    have ih := rolN_lt cs k (by omega)
    unfold rolN
    split
    · split
      · exact wi_lt (n := 32) ih (by omega)
      · exact ih
    · exact ih
theorem kind_nat (cs : List Cmp) : ∀ k, k ≤ 32 → kindM cs true k = ((rolN cs k : Nat) : Int)
  | 0, _ => by simp [rolN, kindM]
  | k + 1, h => by
    have ih := kind_nat cs k (by omega)
    simp only [kindM, rolN]
    cases cs[k]? with
    | none => exact ih
    | some c =>
      simp only
      by_cases hq : (c.rb == true) = true
      · rw [if_pos hq, if_pos hq, ih]
        show bits .or .u32 ((rolN cs k : Nat) : Int) (At.bitI ((k : Nat) : Int)) = _
        rw [At.bitI_in k (by omega), bits_or32 _ _ (rolN_lt cs k (by omega)) (pow32 (by omega))]
        rfl
      · rw [if_neg hq, if_neg hq]
        exact ih
/-- All rolled back components of a schema. -/
def rolA (cs : List Cmp) : Nat := rolN cs (min cs.length 32)
theorem rolA_lt (cs : List Cmp) : rolA cs < 4294967296 := rolN_lt cs _ (Nat.min_le_right _ _)
def bWith : ByteArray := ⟨#[119, 105, 116, 104]⟩
def bWithout : ByteArray := ⟨#[119, 105, 116, 104, 111, 117, 116]⟩
def bChanged : ByteArray := ⟨#[99, 104, 97, 110, 103, 101, 100]⟩
/-- A thing that is wrong, unless it holds. -/
def qL (q : Bool) (s : ByteArray) (k : Nat) : List (List ByteArray × Nat) := if q then [] else [([s], k)]
/-- What is wrong with a filter, where r are rolled back. -/
def qcheckL (r a b c : Nat) : List (List ByteArray × Nat) := qL (decide (an a r = 0)) bWith 1 ++ qL (decide (an b r = 0)) bWithout 1 ++ qL (decide (an c r = 0)) bChanged 1 ++ qL (decide (a &&& b = 0)) bWithout 9 ++ qL (decide (an c a = 0)) bChanged 7
theorem qL_len (q : Bool) (s : ByteArray) (k : Nat) : (qL q s k).length ≤ 1 := by unfold qL; split <;> simp
set_option maxHeartbeats 800000 in
theorem unless_any (Ad : Nat → Addr) (q : Bool) (s : ByteArray) (k : Nat) (hk : 1 ≤ k ∧ k ≤ 18) (w : World) :
    Calls Tryd.prog 18 #[.bool q, .string s, .iface 121 (.pointer (some (Ad k)))] w fun e w' => ∃ v, e = .returned v ∧ Top Ad w'.heap.size w' 1 v (qL q s k) ∧ Below w.heap.size w w' := by
  cases q with
  | true =>
    go_enter Tryd.func18, Tryd.ntmps18
    go_wp2_with fail
    go_ret
    exact ⟨_, rfl, Top.empty, Below.refl _ _⟩
  | false =>
    have C := hid (at_chain Ad s 0 _ ([], k) w (show Chn Ad w.heap.size w 0 (.iface 121 (.pointer (some (Ad k)))) ([], k) from ⟨rfl, hk.1, hk.2, Nat.le_refl _⟩))
    go_enter Tryd.func18, Tryd.ntmps18
    go_wp2_with fail
    refine C.out.mono ?_
    rintro e w1 ⟨v1, rfl, h1, hb1⟩
    have H1 := hid h1
    have B1 := hid hb1
    obtain ⟨t, p, rfl, -⟩ := h1.1.shape
    clear C h1 hb1
    go_wp2_with fail
    go_ret
    exact ⟨_, rfl, Top.one _ _ H1.out, B1.out⟩
theorem top_shape {Ad : Nat → Addr} {n d : Nat} {W : World} {v : Value} {ls : List (List ByteArray × Nat)} (h : Top Ad n W d v ls) : v.cells = #[v] := by
  rcases h with ⟨rfl, -⟩ | ⟨p, -, h⟩ | ⟨b, vs, rfl, -, -⟩
  · rfl
  · obtain ⟨t, q, rfl, -⟩ := h.1.shape
    rfl
  · rfl
/-- Where Check is: the filter's cells, the sentinels, the errors so far. -/
structure Ck (Ad : Nat → Addr) (w0 : World) (g a b c : Nat) (vs : List (Value × List (List ByteArray × Nat))) (wc : World) : Prop where
  env : Env wc Ad
  f0 : wc.cell? ⟨g, 0, none⟩ = some (.int .u32 (a : Int))
  f1 : wc.cell? ⟨g, 1, none⟩ = some (.int .u32 (b : Int))
  f2 : wc.cell? ⟨g, 2, none⟩ = some (.int .u32 (c : Int))
  bel : Below w0.heap.size w0 wc
  one : ∀ u ∈ vs, Top Ad wc.heap.size wc 1 u.1 u.2
  few : ∀ u ∈ vs, u.2.length ≤ 1
section
variable {Ad : Nat → Addr} {w0 wc w1 : World} {g a b c : Nat} {vs : List (Value × List (List ByteArray × Nat))}
theorem Ck.later (h : Ck Ad w0 g a b c vs wc) (hb : Below wc.heap.size wc w1) : Ck Ad w0 g a b c vs w1 :=
  ⟨h.env.later hb, At.seen hb (Nat.le_refl _) h.f0, At.seen hb (Nat.le_refl _) h.f1, At.seen hb (Nat.le_refl _) h.f2, h.bel.trans (hb.mono h.bel.size), fun u hu => (h.one u hu).move hb hb.size, h.few⟩
theorem Ck.push {v : Value} {L : List (List ByteArray × Nat)} (h : Ck Ad w0 g a b c vs wc) (hb : Below wc.heap.size wc w1) (ho : Top Ad w1.heap.size w1 1 v L) (hL : L.length ≤ 1) : Ck Ad w0 g a b c (vs ++ [(v, L)]) w1 :=
  have k := h.later hb
  ⟨k.env, k.f0, k.f1, k.f2, k.bel, fun u hu => by
    rcases List.mem_append.1 hu with hu | hu
    · exact k.one u hu
    · simp at hu; subst hu; exact ho, fun u hu => by
    rcases List.mem_append.1 hu with hu | hu
    · exact k.few u hu
    · simp at hu; subst hu; exact hL⟩
theorem Ck.drew (h : Ck Ad w0 g a b c vs wc) : Ck Ad w0 g a b c vs wc.drew := h.later ⟨rfl, rfl, rfl, Nat.le_refl _, fun _ _ => rfl⟩
theorem Ck.cells (h : Ck Ad w0 g a b c vs wc) : wc.cell? ⟨g, 0, none⟩ = some (.int .u32 (a : Int)) ∧ wc.cell? ⟨g, 1, none⟩ = some (.int .u32 (b : Int)) ∧ wc.cell? ⟨g, 2, none⟩ = some (.int .u32 (c : Int)) ∧ wc.cell? ⟨0, 0, none⟩ = some (.iface 121 (.pointer (some (Ad 1)))) ∧ wc.cell? ⟨1, 0, none⟩ = some (.iface 121 (.pointer (some (Ad 9)))) ∧ wc.cell? ⟨2, 0, none⟩ = some (.iface 121 (.pointer (some (Ad 7)))) :=
  ⟨h.f0, h.f1, h.f2, h.env.cell 1 (by decide) (by decide), h.env.cell 9 (by decide) (by decide), h.env.cell 7 (by decide) (by decide)⟩
theorem flat_few : ∀ (us : List (Value × List (List ByteArray × Nat))), (∀ u ∈ us, u.2.length ≤ 1) → (us.map Prod.snd).flatten.length ≤ us.length
  | [], _ => by simp
  | u :: us, h => by
    have h1 := h u (List.mem_cons_self ..)
    have h2 := flat_few us fun x hx => h x (List.mem_cons_of_mem _ hx)
    simp only [List.map_cons, List.flatten_cons, List.length_append, List.length_cons]
    omega
/-- What All answers of five. -/
theorem all_five (h : Ck Ad w0 g a b c vs wc) {v1 v2 v3 v4 v5 : Value} (hvs : vs.map Prod.fst = [v1, v2, v3, v4, v5]) :
    Calls Tryd.prog 17 #[.slice (some ⟨wc.heap.size, 0, none⟩) 5 5] (wc.alloc (.cells #[v1, v2, v3, v4, v5] 36)) fun e w' => ∃ v', e = .returned v' ∧ Top Ad w'.heap.size w' 1 v' (vs.map Prod.snd).flatten ∧ Ck Ad w0 g a b c [] w' := by
  have b1 := bAl wc (.cells #[v1, v2, v3, v4, v5] 36)
  have r1 := heap_alloc_new wc (.cells #[v1, v2, v3, v4, v5] 36)
  have hs : wc.heap.size < (wc.alloc (.cells #[v1, v2, v3, v4, v5] 36)).heap.size := by simp
  have hvl : vs.length = 5 := by have := congrArg List.length hvs; simpa using this
  have T := all_top Ad 1 (.slice (some ⟨wc.heap.size, 0, none⟩) 5 5) vs (wc.alloc (.cells #[v1, v2, v3, v4, v5] 36)) ⟨_, _, by rw [hvs]; rfl, .inr ⟨wc.heap.size, hs, rfl, fun j x hj => by
      rw [hvs] at hj
      refine cell_blk r1 ?_
      rw [← Array.getElem?_toList]
      exact hj⟩⟩ (fun u hu => (h.one u hu).move b1 b1.size) (by omega) (by have := flat_few vs h.few; omega)
  refine T.mono ?_
  rintro e w' ⟨v', rfl, q1, q2⟩
  have k := (h.later b1).later q2
  exact ⟨v', rfl, q1, k.env, k.f0, k.f1, k.f2, k.bel, fun u hu => by simp at hu, fun u hu => by simp at hu⟩
end
set_option maxHeartbeats 4000000 in
set_option maxRecDepth 100000 in
theorem qcheck_any (Ad : Nat → Addr) (w : World) (va vb : Value) (hvb : ∃ a l c, vb = .slice a l c) (cs : List Cmp) (hE : Env w Ad) (hC : CmpRow w va cs) (hl : cs.length ≤ 1000) (a b c : Nat) (ha : a < 4294967296) (hb : b < 4294967296) (hc : c < 4294967296) :
    Calls Tryd.prog 7 #[.agg #[va, vb], .agg #[.int .u32 (a : Int), .int .u32 (b : Int), .int .u32 (c : Int)]] w fun e w' => ∃ v', e = .returned v' ∧ Top Ad w'.heap.size w' 1 v' (qcheckL (rolA cs) a b c) ∧ Below w.heap.size w w' := by
  obtain ⟨w1, hw1⟩ : ∃ w1, w1 = (w.alloc (.cells #[va, vb] 25)).alloc (.cells #[.int .u32 (a : Int), .int .u32 (b : Int), .int .u32 (c : Int)] 29) := ⟨_, rfl⟩
  have b0 := bAl w (.cells #[va, vb] 25)
  have b1' := bAl (w.alloc (.cells #[va, vb] 25)) (.cells #[.int .u32 (a : Int), .int .u32 (b : Int), .int .u32 (c : Int)] 29)
  have b1 : Below w.heap.size w w1 := by rw [hw1]; exact b0.trans (b1'.mono b0.size)
  have r0 : w1.heap[w.heap.size]? = some (.cells #[va, vb] 25 (0, 0)) := by rw [hw1]; exact blk_seen b1' (Nat.le_refl _) (heap_alloc_new w _)
  have r1 : w1.heap[w.heap.size + 1]? = some (.cells #[.int .u32 (a : Int), .int .u32 (b : Int), .int .u32 (c : Int)] 29 (0, 0)) := by
    have := heap_alloc_new (w.alloc (.cells #[va, vb] 25)) (.cells #[.int .u32 (a : Int), .int .u32 (b : Int), .int .u32 (c : Int)] 29)
    rw [hw1]; simpa using this
  have RB := hid (rollback_any w1 va vb hvb cs (hC.later b1) hl)
  rw [kind_nat cs _ (Nat.min_le_right _ _)] at RB
  have x0 : w1.cell? ⟨w.heap.size, 0, none⟩ = some va := cell_blk r0 rfl
  have x1 : w1.cell? ⟨w.heap.size, 1, none⟩ = some vb := cell_blk r0 rfl
  have HR : Hid (rolN cs (min cs.length 32) < 4294967296) := rolA_lt cs
  have RE : Hid (rolA cs = rolN cs (min cs.length 32)) := rfl
  have HW1 := hid hw1
  have B1 := hid b1
  have R1 := hid r1
  have E1 := hid (hE.later b1)
  obtain ⟨sa, sc, rfl, -, -⟩ := hC
  obtain ⟨ta, tl, tc, rfl⟩ := hvb
  clear hw1 b1 r1 b0 b1' r0 hE
  generalize rolN cs (min cs.length 32) = r at *
  go_enter Tryd.func7, Tryd.ntmps7
  go_upto_region 1 with fail
  rw [← HW1.out]
  go_wp2_with fail
  refine RB.out.mono ?_
  rintro e w2 ⟨rfl, hb2⟩
  have B2 := hid hb2
  have KK : Hid (Ck Ad w (w.heap.size + 1) a b c [] w2) := by
    have q := blk_seen hb2 (Nat.le_refl _) R1.out
    exact ⟨E1.out.later hb2, cell_blk q rfl, cell_blk q rfl, cell_blk q rfl, B1.out.trans (hb2.mono B1.out.size), fun u hu => by simp at hu, fun u hu => by simp at hu⟩
  have WI : Hid (∀ (m n : Nat), m < 4294967296 → n < 4294967296 → ∀ W : World, Calls Tryd.prog 19 #[.int .u32 (m : Int), .int .u32 (n : Int)] W fun e W' => e = .returned (.bool (decide (an m n = 0))) ∧ W' = W) := fun m n hm hn W => within_nat m n hm hn W
  have hr := HR.out
  clear RB hb2 x0 x1 HW1 E1 R1 HR
  generalize w.heap.size + 1 = g6 at *
  have k6 := KK.out
  have k6d := k6.drew
  obtain ⟨c0, c1, c2, c3, c4, c5⟩ := k6.cells
  go_upto_region 2 with fail
  go_region_held3 (fun W => W.cell? ⟨g6, 0, none⟩ = some (.int .u32 (a : Int)) ∧ W.cell? ⟨g6, 1, none⟩ = some (.int .u32 (b : Int)) ∧ W.cell? ⟨g6, 2, none⟩ = some (.int .u32 (c : Int)) ∧ W.cell? ⟨0, 0, none⟩ = some (.iface 121 (.pointer (some (Ad 1)))) ∧ W.cell? ⟨1, 0, none⟩ = some (.iface 121 (.pointer (some (Ad 9)))) ∧ W.cell? ⟨2, 0, none⟩ = some (.iface 121 (.pointer (some (Ad 7))))) (first | go_keep | (exact Ck.cells (by assumption))) (first
    | (go_at_call 19; refine (WI.out _ _ (by assumption) (by assumption) _).mono ?_; rintro e w7 ⟨rfl, hw7⟩; obtain rfl := hw7.symm)
    | (go_at_call 18; refine (unless_any Ad _ _ _ (by decide) _).mono ?_; rintro e w8 ⟨v8, rfl, o8, hb8⟩; have h8 := Ck.push (by assumption) hb8 o8 (qL_len _ _ _); have s8 := top_shape o8; unfold Value.cells at s8)
    | (go_at_call 17; refine (all_five (by assumption) (by rfl)).mono ?_; rintro e w9 ⟨v9, rfl, o9, h9⟩))
  have E4 : (bits .and .u32 (a : Int) (b : Int) == 0) = decide (a &&& b = 0) := by rw [bits_and32 a b ha hb, cast_beq0]
  have O9 : Hid (Top Ad w9.heap.size w9 1 v9 (qcheckL (rolA cs) a b c)) := by
    have q := o9
    simp only [List.nil_append, List.cons_append, List.map_cons, List.map_nil, List.flatten_cons, List.flatten_nil, List.append_nil] at q
    show Top _ _ _ _ _ _
    unfold qcheckL
    rw [RE.out, ← E4]
    simp only [List.append_assoc]
    exact q
  have B9 := hid h9.bel
  obtain ⟨t9, ht9⟩ : ∃ v', v' = v9 := ⟨_, rfl⟩
  clear o9 h9 h8 k6 k6d o8 hb8 E4
  go_wp2_with fail
  go_ret
  exact ⟨_, rfl, O9.out, B9.out⟩
end Go.Proofs.YtfabmleiibnhdaaDoor.Qu
