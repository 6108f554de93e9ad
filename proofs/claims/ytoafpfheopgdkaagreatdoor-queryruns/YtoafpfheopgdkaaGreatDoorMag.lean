/- Texts in one. -/
import Derived.Deep.RegionHeldLaw
import Derived.Shelf.Strings.Builder1
import Derived.Shelf.Strings.Builder2
import Derived.Shelf.Strings.OnBuilder
import Derived.Shelf.Strconv.Itoa0
import Derived.Shelf.Strconv.Itoa1
import Derived.Shelf.Strconv.Itoa3
import Derived.Test.YtoafpfheopgdkaaGreatDoorProg
import Derived.Deep.AppendLies
import Derived.OneCell
import Derived.Maps.AppendAt
import Derived.Maps.OwnSet
import Derived.Laws.IdiomStrings
import Derived.Lib.Strings
import Derived.Lib.ItoaNum
import Derived.Test.YtoafpfheopgdkaaGreatDoorMaf
namespace Go.Proofs.YtoafpfheopgdkaaGreatDoor
open Go.RowKit Go.Shelf
attribute [local go_sem] Oper.semAt_some
theorem Turn.frozen {P : Obj → Prop} {B : Nat} {w w' : World} (h : Turn P B w w') {p : Addr} {x : Value} (hc : w.cell? p = some x) (hp : p.block < B) : w'.frozen? p = w.frozen? p := by
  have hlt := World.block_lt_of_cell? w p hc
  have hb := h.block p.block _ (Array.getElem?_eq_getElem hlt) (.inl hp)
  exact World.frozen?_of_block (w := w) (hb.trans (Array.getElem?_eq_getElem hlt).symm)
theorem new_free (w : World) (x : Value) (e : TypeId) : (w.alloc (.cells #[x] e)).frozen? ⟨w.heap.size, 0, none⟩ = false := by
  have h := heap_alloc_new w (.cells #[x] e)
  unfold World.frozen?; rw [show (⟨w.heap.size, 0, none⟩ : Addr).block = w.heap.size from rfl, h]; rfl
/-- How Has stands between two leaves. -/
def HasI (At : Nat → Addr) (n₀ : Nat) (w : World) (r t : Nat) (a : Addr) (s : List Lf) (W : World) : Prop :=
  ((∀ x ∈ s, At x.k ≠ a) ∧ W.cell? ⟨r, 0, none⟩ = some (.bool false) ∧ W.frozen? ⟨r, 0, none⟩ = false ∧ W.cell? ⟨t, 0, none⟩ = some (.iface 262 (.pointer (some a)))) ∧ Below n₀ w W
def HasX (At : Nat → Addr) (n₀ : Nat) (w : World) (r : Nat) (a : Addr) (c : Code) (s : List Lf) (W : World) : Prop :=
  (c = .ret ∧ (∃ x ∈ s, At x.k = a) ∧ W.cell? ⟨r, 0, none⟩ = some (.bool true)) ∧ Below n₀ w W
theorem HasI.turn {At : Nat → Addr} {n₀ : Nat} {w : World} {r t B : Nat} {a : Addr} {P : Obj → Prop} (hr : r < B) (ht : t < B) (hw : n₀ ≤ B) (h0 : n₀ ≤ w.heap.size) (s : List Lf) (A A' : World) (h : HasI At n₀ w r t a s A) (h1 : Turn P B A A') : HasI At n₀ w r t a s A' := by
  obtain ⟨⟨h2, h3, h4, h5⟩, h6⟩ := h
  exact ⟨⟨h2, h1.cell h3 hr, (h1.frozen h3 hr).trans h4, h1.cell h5 ht⟩, h6.trans ((h1.mono (fun _ h => h) hw).below (Nat.le_trans h0 h6.size))⟩
theorem HasX.turn {At : Nat → Addr} {n₀ : Nat} {w : World} {r B : Nat} {a : Addr} {P : Obj → Prop} (hr : r < B) (hw : n₀ ≤ B) (h0 : n₀ ≤ w.heap.size) (c : Code) (s : List Lf) (A A' : World) (h : HasX At n₀ w r a c s A) (h1 : Turn P B A A') : HasX At n₀ w r a c s A' := by
  obtain ⟨⟨h2, h3, h4⟩, h6⟩ := h
  exact ⟨⟨h2, h3, h1.cell h4 hr⟩, h6.trans ((h1.mono (fun _ h => h) hw).below (Nat.le_trans h0 h6.size))⟩
theorem odd_kept (o : Obj) (h : Odd o) : ¬ isKept o := by
  rintro ⟨cur, rfl | rfl⟩ <;> cases h
set_option maxHeartbeats 2000000 in
set_option maxRecDepth 100000 in
theorem has_gen (Ad At : Nat → Addr) (v : Value) (ls : List (List ByteArray × Nat)) (d : Nat) (w : World) (hE : Env w Ad) (hAt : ∀ j, 1 ≤ j → j ≤ 18 → SenK w (At j)) (hT : Tr At w.heap.size w d v ls) (hd : d ≤ 1000) (k : Nat) (hk : k < 18) :
    Calls Tryz.prog 80 #[v, .int .i64 ((k : Int) + 1)] w fun e w' => e = .returned (.bool (decide (∃ p ∈ ls, At p.2 = Ad (k + 1)))) ∧ Below w.heap.size w w' := by
  have HAT := hid hAt
  clear hAt
  have HV := hid hT.isIface
  have HT := hid hT
  have HE := hid hE
  have b1 : Below w.heap.size w (w.alloc (.cells #[.bool false] 4)) := (Below.refl _ _).alloc (Nat.le_refl _) _
  have E1 := hid (hE.later b1)
  have BB := hid b1
  clear hT hE b1
  refine callsIn_wide (n := 5) |>.1 ?_
  refine callsIn_of_wp_marks Tryz.func80 rfl trivial ?_ rfl
  simp only [Tryz.ntmps80, List.size_toArray, List.length_cons, List.length_nil, Nat.reduceAdd, Nat.reduceSub, Array.replicate_succ, Array.replicate_zero, List.push_toArray, List.append_toArray, List.nil_append, List.cons_append]
  gi_wp2_with fail
  refine ⟨trivial, ?_⟩
  refine (callsIn_wide.2 (of_some _ Ad E1.out k hk)).mono ?_
  rintro e w2 ⟨rfl, hb2⟩
  have B2 := hid (show Below (w.heap.size + 1) (w.alloc (.cells #[.bool false] 4)) w2 by simpa using hb2)
  clear hb2
  gi_wp2_with fail
  refine ⟨trivial, ?_⟩
  refine (callsIn_wide.2 (parts_any v HV.out _)).mono ?_
  rintro e w' ⟨rfl, rfl⟩
  gi_wp2_with fail
  obtain ⟨wl, hwl⟩ : ∃ wl, wl = (w2.alloc (.cells #[.iface 262 (.pointer (some (Ad (k + 1))))] 46)).alloc (.cells #[v] 46) := ⟨_, rfl⟩
  rw [← hwl]
  have hs2 : w.heap.size + 1 ≤ w2.heap.size := by have := B2.out.size; simpa using this
  have hsz : wl.heap.size = w2.heap.size + 1 + 1 := by rw [hwl]; simp
  have hl2 : Below w2.heap.size w2 wl := by rw [hwl]; exact ((Below.refl _ _).alloc (Nat.le_refl _) _).alloc (by simp) _
  have hb0 : Below w.heap.size w wl := (BB.out.trans (B2.out.mono (by omega))).trans (hl2.mono (by omega))
  have c0 : wl.cell? ⟨w.heap.size, 0, none⟩ = some (.bool false) := (hl2.cell (p := ⟨w.heap.size, 0, none⟩) (by show w.heap.size < _; omega)).trans ((B2.out.cell (p := ⟨w.heap.size, 0, none⟩) (by show w.heap.size < _; omega)).trans (new_cell w _ _))
  have f0 : wl.frozen? ⟨w.heap.size, 0, none⟩ = false := (hl2.frozen (p := ⟨w.heap.size, 0, none⟩) (by show w.heap.size < _; omega)).trans ((B2.out.frozen (p := ⟨w.heap.size, 0, none⟩) (by show w.heap.size < _; omega)).trans (new_free w _ _))
  have c1 : wl.cell? ⟨w2.heap.size, 0, none⟩ = some (.iface 262 (.pointer (some (Ad (k + 1))))) := by
    rw [hwl]
    exact (((Below.refl (w2.heap.size + 1) _).alloc (by simp) _).cell (p := ⟨w2.heap.size, 0, none⟩) (by show w2.heap.size < _; omega)).trans (new_cell w2 _ _)
  have c2 : wl.cell? ⟨w2.heap.size + 1, 0, none⟩ = some v := by
    rw [hwl]
    have := new_cell (w2.alloc (.cells #[.iface 262 (.pointer (some (Ad (k + 1))))] 46)) v 46
    rw [World.size_alloc] at this
    exact this
  refine range_law (P := Tryz.prog) rfl (by decide) (gf := 75) (lb := #[.pointer (some ⟨w2.heap.size + 1, 0, none⟩)]) rfl trivial (enters_of Tryz.func75 (by kernel_rfl) rfl)
    (encs At) (fun _ => rfl) isRow isRow_cells (Handed wl.heap.size ls) (HasI At w.heap.size wl w.heap.size w2.heap.size (Ad (k + 1))) (HasX At w.heap.size wl w.heap.size (Ad (k + 1))) (Kp w.heap.size)
    (fun xs => xs.map Lf.pair = ls) (fun xs => xs.map Lf.pair <+: ls)
    ?hR (HasI.turn (by omega) (by omega) (by omega) (by omega)) (HasX.turn (by omega) (by omega) (by omega)) ⟨⟨by simp, c0, f0, c1⟩, Below.refl _ _⟩ w.heap.size ?hBi ?hBx ?hKt ?hKb
    (parts_seq At w.heap.size (w2.heap.size + 1) d w wl v ls _ _ HT.out hd hb0 (by omega) (by omega) c2)
    (fun x => { tmps := #[v, .int .i64 ((k : Int) + 1), undef, undef, .pointer (some ⟨w.heap.size, 0, none⟩), .pointer (some ⟨w2.heap.size, 0, none⟩), undef, .iface 262 (.pointer (some (At x.k))), .int .i64 ((k : Int) + 1), .iface 262 (.pointer (some (Ad (k + 1)))), .iface 262 (.pointer (some (Ad (k + 1)))), .bool false, v, .func (.func 75) #[] #[.pointer (some ⟨w2.heap.size + 1, 0, none⟩)], x.tv, .iface 262 (.pointer (some (At x.k))), undef, undef, undef], defers := [] }) ?assign ?body ?done ?stop
  case hR =>
    rintro s x A B ⟨h1, h2⟩ ht
    exact ⟨own_later h1 fun g cur _ hg => ht.block g _ hg (.inr fun h => by cases h), h2⟩
  case hBi => exact fun s A h => h.2
  case hBx => exact fun c s A h => h.2
  case hKt => exact fun h1 h2 => h1.trans h2
  case hKb => exact fun h => h.mono odd_kept (by omega)
  case assign =>
    intro l x W K hK
    simp only [encs]
    gi_wp2
    exact hK
  case body =>
    rintro l pre x W hl ⟨⟨hp, hc, hf, ht⟩, hB⟩ ⟨htr, hx1, hx2, -⟩
    have hEW := HE.out.later (hb0.trans hB)
    have C := hid (is_any (At x.k) (Ad (k + 1)) W ((HAT.out _ hx1 hx2).below (hb0.trans hB) (HAT.out _ hx1 hx2).lt) (hEW.sen _ (by omega) (by omega)))
    have hsW : w.heap.size < W.heap.size := World.block_lt_of_cell? W _ hc
    by_cases he : At x.k = Ad (k + 1)
    · rw [decide_eq_true he] at C
      have HQ := hid he
      clear he
      gi_wp2_with fail
      refine ⟨trivial, ?_⟩
      refine (CallsIn.inRound l (callsIn_wide.2 C.out)).mono ?_
      rintro e w' ⟨rfl, rfl⟩
      gi_wp2_with fail
      have cs : (W.setCell ⟨w.heap.size, 0, none⟩ (.bool true)).cell? ⟨w.heap.size, 0, none⟩ = some (.bool true) := World.cell?_setCell_same' _ _ _ (by rw [hc]; rfl)
      exact ⟨(KeepsOthers.setCell _ _ _).trans (KeepsOthers.alloc _ _), ⟨rfl, ⟨x, by simp, HQ.out⟩, (((Below.refl (w.heap.size + 1) _).alloc (by simp; omega) _).cell (p := ⟨w.heap.size, 0, none⟩) (by show w.heap.size < _; omega)).trans cs⟩, (hB.setCell (p := ⟨w.heap.size, 0, none⟩) (Nat.le_refl _) _).alloc (by simp; omega) _⟩
    · rw [decide_eq_false he] at C
      have bb : Below W.heap.size W (W.alloc (.cells #[.bool false] 4)) := (Below.refl _ _).alloc (Nat.le_refl _) _
      gi_wp2_with fail
      refine ⟨trivial, ?_⟩
      refine (CallsIn.inRound l (callsIn_wide.2 C.out)).mono ?_
      rintro e w' ⟨rfl, rfl⟩
      gi_wp2_with fail
      refine ⟨KeepsOthers.alloc _ _, Turn.alloc _ _ _ _, ⟨fun y hy => (List.mem_append.1 hy).elim (hp y) (fun e => by simp at e; subst e; exact he), (bb.cell (p := ⟨w.heap.size, 0, none⟩) hsW).trans hc, (bb.frozen (p := ⟨w.heap.size, 0, none⟩) hsW).trans hf, (bb.cell (p := ⟨w2.heap.size, 0, none⟩) (World.block_lt_of_cell? W _ ht)).trans ht⟩, hB.alloc (by omega) _⟩
  case done =>
    rintro D ys W hD hS ⟨⟨hne, hc, hf, _⟩, hB⟩ hK
    have hdec : decide (∃ p ∈ ls, At p.2 = Ad (k + 1)) = false := by
      simp only [decide_eq_false_iff_not]
      rw [← hS]
      rintro ⟨p, hp, e⟩
      obtain ⟨x, hx, rfl⟩ := List.mem_map.1 hp
      exact hne x hx e
    gi_wp2
    have hK' := (KeepsOthers.setCell W ⟨w.heap.size, 0, none⟩ (.bool false)).same D _ hK rfl
    refine ⟨by simp, .inl ⟨_, _, rfl, run_takeDeferred hK', ?_⟩⟩
    have hc5 := cell_kept (World.cell?_setCell_same' W ⟨w.heap.size, 0, none⟩ (.bool false) (by rw [hc]; rfl)) (grownBy_putObj' _ D (.deferred none)) (fun r e => by cases e; exact ⟨_, hK', rfl⟩)
    refine ⟨.bool false, ?_, by rw [hdec], (hb0.trans (hB.setCell (p := ⟨w.heap.size, 0, none⟩) (Nat.le_refl _) _)).trans ((Turn.put (P := Odd) _ (show w.heap.size ≤ D by omega) hK' rfl).below (Nat.le_trans hb0.size (Nat.le_trans hB.size (by simp))))⟩
    simp [results, Tryz.f80, go_sem, hc5]
  case stop =>
    rintro D c pre W hD hS ⟨⟨rfl, ⟨x, hx, he⟩, hc⟩, hB⟩ hK
    have hdec : decide (∃ p ∈ ls, At p.2 = Ad (k + 1)) = true := by
      simp only [decide_eq_true_eq]
      exact ⟨x.pair, hS.subset (List.mem_map.2 ⟨x, hx, rfl⟩), he⟩
    gi_wp2
    refine ⟨by simp, .inl ⟨_, _, rfl, run_takeDeferred hK, ?_⟩⟩
    have hc5 := cell_kept hc (grownBy_putObj' _ D (.deferred none)) (fun r e => by cases e; exact ⟨_, hK, rfl⟩)
    refine ⟨.bool true, ?_, by rw [hdec], (hb0.trans hB).trans ((Turn.put (P := Odd) _ (show w.heap.size ≤ D by omega) hK rfl).below (Nat.le_trans hb0.size hB.size))⟩
    simp [results, Tryz.f80, go_sem, hc5]
theorem Tr.range {Ad : Nat → Addr} {n₀ : Nat} {W : World} {d : Nat} {v : Value} {ls : List (List ByteArray × Nat)} (h : Tr Ad n₀ W d v ls) : ∀ p ∈ ls, 1 ≤ p.2 ∧ p.2 ≤ 18 := by
  induction h using Tr.ind with
  | empty d => simp
  | leaf d k hk => simpa using hk
  | blame d b s inner ls hbn c0 c1 hi ih =>
    intro p hp
    obtain ⟨q, hq, rfl⟩ := List.mem_map.1 hp
    exact ih q hq
  | many d b g c vs hbn hgn h0 hn cb cg one hi ih =>
    intro p hp
    obtain ⟨l, hl, hp⟩ := List.mem_flatten.1 hp
    obtain ⟨x, hx, rfl⟩ := List.mem_map.1 hl
    exact ih x hx p hp
theorem has_any (Ad : Nat → Addr) (v : Value) (ls : List (List ByteArray × Nat)) (d : Nat) (w : World) (hE : Env w Ad) (hT : Tr Ad w.heap.size w d v ls) (hd : d ≤ 1000) (k : Nat) (hk : k < 18) :
    Calls Tryz.prog 80 #[v, .int .i64 ((k : Int) + 1)] w fun e w' => e = .returned (.bool (decide (k + 1 ∈ ls.map Prod.snd))) ∧ Below w.heap.size w w' := by
  have h := has_gen Ad Ad v ls d w hE hE.sen hT hd k hk
  have e : decide (∃ p ∈ ls, Ad p.2 = Ad (k + 1)) = decide (k + 1 ∈ ls.map Prod.snd) := by
    apply decide_eq_decide.2
    constructor
    · rintro ⟨p, hp, hq⟩
      have hr := hT.range p hp
      exact List.mem_map.2 ⟨p, hp, hE.inj _ _ hr.1 hr.2 (by omega) (by omega) hq⟩
    · intro hm
      obtain ⟨p, hp, hq⟩ := List.mem_map.1 hm
      exact ⟨p, hp, by rw [hq]⟩
  rw [e] at h
  exact h
end Go.Proofs.YtoafpfheopgdkaaGreatDoor
namespace Go.Proofs.YtoafpfheopgdkaaGreatDoor
open Go.RowKit Go.Shelf
/-- The least number of leaves, from k + 1 on; 18: none. -/
def firstK (ns : List Nat) : Nat → Nat → Nat
  | 0, k => k
  | f + 1, k => if k + 1 ∈ ns then k else firstK ns f (k + 1)
/-- What Number answers: 0 of nothing. -/
def numOf (ns : List Nat) : Int := if firstK ns 18 0 < 18 then (firstK ns 18 0 : Int) + 1 else -1
theorem firstK_step {ns : List Nat} {k : Nat} (hk : k < 18) : firstK ns (18 - k) k = if k + 1 ∈ ns then k else firstK ns (18 - (k + 1)) (k + 1) := by
  rw [show 18 - k = (18 - (k + 1)) + 1 by omega]; rfl
set_option maxHeartbeats 800000 in
set_option maxRecDepth 100000 in
theorem number_some (Ad : Nat → Addr) (v : Value) (ls : List (List ByteArray × Nat)) (d : Nat) (w : World) (hE : Env w Ad) (hT : Tr Ad w.heap.size w d v ls) (hd : d ≤ 1000) (hv : ∃ t p, v = .iface t p) :
    Calls Tryz.prog 44 #[v] w fun e w' => e = .returned (.int .i64 (numOf (ls.map Prod.snd))) ∧ Below w.heap.size w w' := by
  obtain ⟨t, p, rfl⟩ := hv
  have HE := hid hE
  have HT := hid hT
  clear hE hT
  go_enter Tryz.func44, Tryz.ntmps44
  go_wp2_with fail
  go_loopw [3] (fun i wr => ∃ k : Nat, k ≤ 18 ∧ i = .int .i64 ((k : Int) + 1) ∧ firstK (ls.map Prod.snd) 18 0 = firstK (ls.map Prod.snd) (18 - k) k ∧ Below w.heap.size w wr) (fun i _ => 20 - (intOf i).toNat)
  case atStart => exact ⟨0, by omega, rfl, rfl, Below.refl _ _⟩
  case round =>
    obtain ⟨k, hk, rfl, hf, hb⟩ := hrel
    have HF := hid hf
    have HB := hid hb
    clear hf hb
    by_cases hlt : k < 18
    · have hki : (k : Int) < 18 := by omega
      have C := hid (has_any Ad (.iface t p) ls d wr (HE.out.later HB.out) (Tr.later HT.out HB.out) hd k hlt)
      have ST := hid (firstK_step (ns := ls.map Prod.snd) hlt)
      by_cases hm : k + 1 ∈ ls.map Prod.snd
      · rw [decide_eq_true hm] at C
        have R : Hid (numOf (ls.map Prod.snd) = (k : Int) + 1) := by
          show numOf _ = _
          unfold numOf
          rw [HF.out, ST.out, if_pos hm, if_pos hlt]
        clear hm ST
        go_wp2_with fail
        refine C.out.mono ?_
        rintro e w3 ⟨rfl, hb3⟩
        have B3 := hid (HB.out.trans (hb3.mono HB.out.size))
        clear hb3
        go_wp2_with fail
        go_ret
        exact ⟨by rw [R.out]; rfl, B3.out⟩
      · rw [decide_eq_false hm] at C
        have R : Hid (firstK (ls.map Prod.snd) 18 0 = firstK (ls.map Prod.snd) (18 - (k + 1)) (k + 1)) := by
          show firstK _ _ _ = _
          rw [HF.out, ST.out, if_neg hm]
        clear hm ST
        go_wp2_with fail
        refine C.out.mono ?_
        rintro e w3 ⟨rfl, hb3⟩
        have B3 := hid (HB.out.trans (hb3.mono HB.out.size))
        clear hb3
        go_wp2_with fail
        go_roundw
        case rel => exact ⟨k + 1, by omega, by congr 1, R.out, B3.out⟩
        case measure => simp [intOf]; omega
    · have hki : ¬ (k : Int) < 18 := by omega
      have R : Hid (numOf (ls.map Prod.snd) = -1) := by
        show numOf _ = _
        unfold numOf
        rw [HF.out, show 18 - k = 0 by omega]
        show (if k < 18 then (k : Int) + 1 else -1) = -1
        rw [if_neg hlt]
      go_wp2_with fail
      go_ret
      exact ⟨by rw [R.out]; rfl, HB.out⟩
set_option maxHeartbeats 800000 in
theorem number_nil (w : World) : Calls Tryz.prog 44 #[.nilIface] w fun e w' => e = .returned (.int .i64 0) ∧ w' = w := by
  go_enter Tryz.func44, Tryz.ntmps44
  go_wp2
  go_ret
  exact ⟨rfl, rfl⟩
end Go.Proofs.YtoafpfheopgdkaaGreatDoor
namespace Go.Proofs.YtoafpfheopgdkaaGreatDoor
open Go.RowKit
variable {P : Program} {ops : Array Oper} {Q : Exit → Act → World → Prop} {l n : Nat}
theorem upon_round {o : Oper} {a : Act} {K : Act → World → Prop} : ∀ {r : Result Next}, o.upon P a K Q r → o.uponIn (Fence.wide.inRound l) n P a K Q r
  | .ok (.value _) _, h => h
  | .ok .skip _, h => h
  | .ok (.defer _) _, h => h
  | .ok (.enter _ _) _, h => ⟨fun e => (by cases e), CallsIn.inRound l (callsIn_wide.2 h)⟩
  | .ok (.row _ _) _, h => ⟨fun e => (by cases e), fun c cs _ => let ⟨v, w', r, s⟩ := h c cs; ⟨v, w', r, stepsIn_wide.2 s⟩⟩
  | .ok (.round _ _ _ _ _) _, h => h.elim
  | .halt (.panic _) _, h => h
theorem wpIn_round {o : Oper} {a : Act} {w : World} {K : Act → World → Prop} (hd : ∀ c, o.op ≠ .defer c) (h : o.wp P a w K Q) : o.wpIn (Fence.wide.inRound l) n P a w K Q := by
  refine ⟨fun _ _ => trivial, ?_⟩
  rw [Oper.semAt_plain _ _ _ hd]
  exact upon_round h
/-- No operation defers. -/
def noDefer (ops : Array Oper) : Bool := ops.all fun o => match o.op with | .defer _ => false | _ => true
theorem noDefer_at (h : noDefer ops = true) {i : Nat} {o : Oper} (hi : ops[i]? = some o) : ∀ c, o.op ≠ .defer c := by
  intro c e
  obtain ⟨hlt, rfl⟩ := Array.getElem?_eq_some_iff.1 hi
  have := Array.all_eq_true.1 h i hlt
  rw [e] at this
  cases this
theorem any_round {md : Region.Mode} (hd : noDefer ops = true) (hq : ¬ LetsOut Q) : ∀ (fuel : Nat) (listed : Array Bool) (a : Act) (w : World), wpAny P md ops Q fuel listed a w → wpAnyIn (Fence.wide.inRound l) n P md ops Q fuel listed a w
  | 0, _, _, _, h => h
  | fuel + 1, listed, a, w, h => by
    refine ⟨h.1, fun i hi => ?_⟩
    have h1 := wpOp_mono (K' := wpAnyIn (Fence.wide.inRound l) n P md ops Q fuel (listed.setIfInBounds i true)) (fun a' w' => any_round hd hq fuel _ a' w') (h.2 i hi)
    unfold wpOp at h1
    unfold wpOpIn
    cases ho : ops[i]? with
    | none => rw [ho] at h1; exact h1
    | some o =>
      rw [ho] at h1
      simp only at h1 ⊢
      by_cases hw : Region.wanted o (yielded ops a.tmps) = true
      · rw [if_pos hw] at h1 ⊢
        exact wpIn_round (noDefer_at hd ho) (h1.resolve_right fun h => hq h.2)
      · rw [if_neg hw] at h1 ⊢
        exact ⟨fun _ _ => trivial, h1⟩
theorem region_round0 {id : Nat} {a : Act} {w : World} (hm : P.follows .mixedOrders = true) (hd : noDefer ops = true) (hq : ¬ LetsOut Q)
    (h : wpAny P .any ops Q ops.size (Array.replicate ops.size false) a w.drew) : (Code.region id ops true).wpIn (Fence.wide.inRound l) n P Q a w :=
  wpIn_region_any hm (any_round hd hq _ _ _ _ h)
/-- A region that draws its order, inside a round. -/
theorem region_round {id : Nat} {a : Act} {w : World} (S : World → Prop) (hm : P.follows .mixedOrders = true) (hd : noDefer ops = true) (hq : ¬ LetsOut Q) (hS : S w.drew)
    (h : S w.drew → wpAnyH P .any ops Q S ops.size (Array.replicate ops.size false) a w.drew) : (Code.region id ops true).wpIn (Fence.wide.inRound l) n P Q a w :=
  wpIn_region_any hm (any_round hd hq _ _ _ _ (wpAny_of_held _ _ _ _ (h hS)))
end Go.Proofs.YtoafpfheopgdkaaGreatDoor
namespace Go.Proofs
open Go.Shelf
def Tryz.lays156_ren : Go.Shelf.Ren := ⟨fun | 156 => 43 | 165 => 77 | 166 => 78 | 169 => 79 | 240 => 109 | 241 => 110 | 276 => 124 | 277 => 125 | n => n, fun | 31 => 113 | 9 => 9 | 3 => 3 | 4 => 4 | 0 => 0 | 20 => 20 | 72 => 179 | 76 => 55 | 70 => 176 | 37 => 177 | 75 => 46 | 127 => 213 | 164 => 224 | 5 => 5 | 80 => 182 | n => n, fun | n => n⟩
theorem Tryz.lays156 : Go.Proofs.Lays.n156 Tryz.prog Tryz.lays156_ren := {
  mixed := by kernel_rfl
  f156 := Tryz.func43.trans (congrArg some (by kernel_rfl))
  f165 := Tryz.func77.trans (congrArg some (by kernel_rfl))
  f166 := Tryz.func78.trans (congrArg some (by kernel_rfl))
  f169 := Tryz.func79.trans (congrArg some (by kernel_rfl))
  f240 := Tryz.func109.trans (congrArg some (by kernel_rfl))
  f241 := Tryz.func110.trans (congrArg some (by kernel_rfl))
  f276 := Tryz.func124.trans (congrArg some (by kernel_rfl))
  f277 := Tryz.func125.trans (congrArg some (by kernel_rfl))
  t0 := Tryz.underlying0
  a0 := Tryz.isAgg0
  z0 := Tryz.sizeOf0
  v0 := Tryz.zeroValue0
  t3 := Tryz.underlying3
  a3 := Tryz.isAgg3
  z3 := Tryz.sizeOf3
  v3 := Tryz.zeroValue3
  t4 := Tryz.underlying4
  a4 := Tryz.isAgg4
  z4 := Tryz.sizeOf4
  v4 := Tryz.zeroValue4
  t9 := Tryz.underlying9
  a9 := Tryz.isAgg9
  z9 := Tryz.sizeOf9
  v9 := Tryz.zeroValue9
  t20 := Tryz.underlying20
  a20 := Tryz.isAgg20
  z20 := Tryz.sizeOf20
  v20 := Tryz.zeroValue20
  t31 := Tryz.underlying113
  a31 := Tryz.isAgg113
  z31 := Tryz.sizeOf113
  v31 := Tryz.zeroValue113
  t37 := Tryz.underlying177
  a37 := Tryz.isAgg177
  z37 := Tryz.sizeOf177
  v37 := Tryz.zeroValue177
  t70 := Tryz.underlying176
  a70 := Tryz.isAgg176
  z70 := Tryz.sizeOf176
  v70 := Tryz.zeroValue176
  t72 := Tryz.underlying179
  a72 := Tryz.isAgg179
  z72 := Tryz.sizeOf179
  v72 := Tryz.zeroValue179
  t75 := Tryz.underlying46
  a75 := Tryz.isAgg46
  z75 := Tryz.sizeOf46
  v75 := Tryz.zeroValue46
  t76 := Tryz.underlying55
  a76 := Tryz.isAgg55
  z76 := Tryz.sizeOf55
  v76 := Tryz.zeroValue55
  t127 := Tryz.underlying213
  a127 := Tryz.isAgg213
  z127 := Tryz.sizeOf213
  v127 := Tryz.zeroValue213
  t164 := Tryz.underlying224
  a164 := Tryz.isAgg224
  z164 := Tryz.sizeOf224
  v164 := Tryz.zeroValue224 }
theorem Tryz.Builder_Extra_156 : Builder.Extra Tryz.prog Tryz.lays156_ren := {
  sizeBuilder := by kernel_rfl
  liesBuilder := by kernel_rfl
  t5 := Tryz.underlying5
  a5 := Tryz.isAgg5
  z5 := Tryz.sizeOf5
  v5 := Tryz.zeroValue5
  infoByte := by kernel_rfl
  cellsByte := by kernel_rfl
  sizeByte := by kernel_rfl
  neB5 := by decide }
open Go.RowKit in
/-- No element: the empty string; the world is as it was. (Whatever the slice's address and capacity: a nil slice too.) (LAID: no walk: one application.) -/
theorem Tryz.strings_Join_none (a : Option Addr) (c : Nat) (sep : ByteArray) (w : World) :
    Calls Tryz.prog 43 #[.slice a 0 c, .string sep] w fun e w' => e = .returned (.string ⟨#[]⟩) ∧ w' = w := Any.strings_Join_none Tryz.lays156 Tryz.Builder_Extra_156 a c sep w
open Go.RowKit in
/-- strings.Join: "Join concatenates the elements of its first argument to create a single string. The separator string sep is placed between elements in the resulting string.": HOWEVER MANY ELEMENTS. Below the heap's end the world is as it was. (LAID: no walk: one application.) -/
theorem Tryz.strings_Join (bk o c : Nat) (xs : List ByteArray) (sep : ByteArray) (w : World) (hcells : ∀ (j : Nat) x, xs[j]? = some x → w.cell? ⟨bk, o + j, none⟩ = some (.string x)) (hbk : bk < w.heap.size) (hN : xs.length ≤ 140737488355328) (hcap : xs.length ≤ c) (hlen : (Lib.join (xs.map (·.data.toList)) sep.data.toList).length ≤ 140737488355328) :
    Calls Tryz.prog 43 #[.slice (some ⟨bk, o, none⟩) xs.length c, .string sep] w fun e w' => e = .returned (.string ⟨(Lib.join (xs.map (·.data.toList)) sep.data.toList).toArray⟩) ∧ Below w.heap.size w w' := Any.strings_Join Tryz.lays156 Tryz.Builder_Extra_156 bk o c xs sep w hcells hbk hN hcap hlen
def Tryz.lays171_ren : Go.Shelf.Ren := ⟨fun | 171 => 68 | 243 => 104 | 246 => 121 | 283 => 137 | 284 => 138 | 285 => 139 | 286 => 140 | 129 => 98 | 317 => 147 | 318 => 148 | 319 => 149 | 320 => 150 | 337 => 152 | 338 => 153 | n => n, fun | 3 => 3 | 9 => 9 | 2 => 2 | 4 => 4 | 171 => 236 | 0 => 0 | 53 => 203 | 37 => 177 | 5 => 5 | 173 => 238 | 212 => 248 | 51 => 23 | 20 => 20 | 213 => 249 | 46 => 138 | 232 => 260 | 233 => 261 | n => n, fun | 17 => 19 | 18 => 20 | 19 => 21 | n => n⟩
theorem Tryz.lays171 : Go.Proofs.Lays.n171 Tryz.prog Tryz.lays171_ren := {
  mixed := by kernel_rfl
  f129 := Tryz.func98.trans (congrArg some (by kernel_rfl))
  f171 := Tryz.func68.trans (congrArg some (by kernel_rfl))
  f243 := Tryz.func104.trans (congrArg some (by kernel_rfl))
  f246 := Tryz.func121.trans (congrArg some (by kernel_rfl))
  f283 := Tryz.func137.trans (congrArg some (by kernel_rfl))
  f284 := Tryz.func138.trans (congrArg some (by kernel_rfl))
  f285 := Tryz.func139.trans (congrArg some (by kernel_rfl))
  f286 := Tryz.func140.trans (congrArg some (by kernel_rfl))
  f317 := Tryz.func147.trans (congrArg some (by kernel_rfl))
  f318 := Tryz.func148.trans (congrArg some (by kernel_rfl))
  f319 := Tryz.func149.trans (congrArg some (by kernel_rfl))
  f320 := Tryz.func150.trans (congrArg some (by kernel_rfl))
  f337 := Tryz.func152.trans (congrArg some (by kernel_rfl))
  f338 := Tryz.func153.trans (congrArg some (by kernel_rfl))
  t0 := Tryz.underlying0
  a0 := Tryz.isAgg0
  z0 := Tryz.sizeOf0
  v0 := Tryz.zeroValue0
  t2 := Tryz.underlying2
  a2 := Tryz.isAgg2
  z2 := Tryz.sizeOf2
  v2 := Tryz.zeroValue2
  t3 := Tryz.underlying3
  a3 := Tryz.isAgg3
  z3 := Tryz.sizeOf3
  v3 := Tryz.zeroValue3
  t4 := Tryz.underlying4
  a4 := Tryz.isAgg4
  z4 := Tryz.sizeOf4
  v4 := Tryz.zeroValue4
  t5 := Tryz.underlying5
  a5 := Tryz.isAgg5
  z5 := Tryz.sizeOf5
  v5 := Tryz.zeroValue5
  t9 := Tryz.underlying9
  a9 := Tryz.isAgg9
  z9 := Tryz.sizeOf9
  v9 := Tryz.zeroValue9
  t20 := Tryz.underlying20
  a20 := Tryz.isAgg20
  z20 := Tryz.sizeOf20
  v20 := Tryz.zeroValue20
  t37 := Tryz.underlying177
  a37 := Tryz.isAgg177
  z37 := Tryz.sizeOf177
  v37 := Tryz.zeroValue177
  t46 := Tryz.underlying138
  a46 := Tryz.isAgg138
  z46 := Tryz.sizeOf138
  v46 := Tryz.zeroValue138
  t51 := Tryz.underlying23
  a51 := Tryz.isAgg23
  z51 := Tryz.sizeOf23
  v51 := Tryz.zeroValue23
  t53 := Tryz.underlying203
  a53 := Tryz.isAgg203
  z53 := Tryz.sizeOf203
  v53 := Tryz.zeroValue203
  t171 := Tryz.underlying236
  a171 := Tryz.isAgg236
  z171 := Tryz.sizeOf236
  v171 := Tryz.zeroValue236
  t173 := Tryz.underlying238
  a173 := Tryz.isAgg238
  z173 := Tryz.sizeOf238
  v173 := Tryz.zeroValue238
  t212 := Tryz.underlying248
  a212 := Tryz.isAgg248
  z212 := Tryz.sizeOf248
  v212 := Tryz.zeroValue248
  t213 := Tryz.underlying249
  a213 := Tryz.isAgg249
  z213 := Tryz.sizeOf249
  t232 := Tryz.underlying260
  a232 := Tryz.isAgg260
  z232 := Tryz.sizeOf260
  v232 := Tryz.zeroValue260
  t233 := Tryz.underlying261
  a233 := Tryz.isAgg261
  z233 := Tryz.sizeOf261
  v233 := Tryz.zeroValue261
  g17 := by kernel_rfl
  g18 := by kernel_rfl
  g19 := by kernel_rfl }
open Go.RowKit Go.Sort Go.Lib in
/-- THE ROAD WITHOUT THE TABLE: 0 <= i < 100: NO PREMISE ON THE WORLD, AND THE WORLD IS AS IT WAS: a row that keeps its argument in that range need list no table ('laid = []'). (LAID: no walk: one application.) -/
theorem Tryz.strconv_Itoa_small (i : Nat) (hi : i < 100) (w : World) :
    Calls Tryz.prog 68 #[.int .i64 i] w fun e w' => e = .returned (.string ⟨(Lib.decDigits i).toArray⟩) ∧ w' = w := Any.strconv_Itoa_small Tryz.lays171 i hi w
end Go.Proofs
namespace Go.Proofs.YtoafpfheopgdkaaGreatDoor
open Go.RowKit Go.Shelf
attribute [local go_sem] Oper.semAt_some
/-- A way as a text. -/
def joinB (ws : List ByteArray) : ByteArray := ⟨(Lib.join (ws.map (·.data.toList)) [47]).toArray⟩
def leafCells (ls : List (List ByteArray × Nat)) : List Value := ls.flatMap fun p => [.string (joinB p.1), .int .i64 (p.2 : Int)]
theorem numOf_one : ∀ k, k < 18 → numOf [k + 1] = (k : Int) + 1 := by decide
theorem join_any (B : Nat) (tv : Value) (ts : List ByteArray) (w : World) (h : Trail B w tv ts) (hl : ts.length ≤ 1000) (hs : (joinB ts).size ≤ 100000) :
    Calls Tryz.prog 43 #[tv, .string ⟨#[47]⟩] w fun e w' => e = .returned (.string (joinB ts)) ∧ Below w.heap.size w w' := by
  rcases h.2 with ⟨rfl, h0⟩ | ⟨g, cap, cur, rfl, hb, hblk, hnc, hcm, hcs, htk⟩
  · have : ts = [] := List.eq_nil_of_length_eq_zero h0
    subst this
    refine (Tryz.strings_Join_none none 0 ⟨#[47]⟩ w).mono ?_
    rintro e w' ⟨rfl, rfl⟩
    exact ⟨rfl, Below.refl _ _⟩
  · refine Tryz.strings_Join g 0 cap ts ⟨#[47]⟩ w (fun j x hx => ?_) (Array.getElem?_eq_some_iff.1 hblk).1 (by omega) hnc ?_
    · have hj : j < ts.length := (List.getElem?_eq_some_iff.1 hx).1
      rw [Nat.zero_add, World.ownsRow.cellAt h j (by omega)]
      simp [hx, sv]
    · have : (Lib.join (ts.map (·.data.toList)) [47]).length = (joinB ts).size := by simp [joinB, ByteArray.size]
      show (Lib.join (ts.map (·.data.toList)) [47]).length ≤ _
      omega
theorem Tryz.infoLeaf : (Tryz.prog.info? 73).map (fun i => (i.zero, i.size, i.bytes)) = some (some (.agg #[.string ⟨#[]⟩, .int .i64 0]), 2, 24) := by kernel_rfl
theorem own_far {w w' : World} {B n z : Nat} {e : TypeId} {v : Value} {xs : List Value} (h : w.ownsRow B e z v n xs) (hb : Below w.heap.size w w') : w'.ownsRow B e z v n xs := by
  refine ⟨h.1, ?_⟩
  rcases h.2 with h1 | ⟨g, cap, cur, h1, h2, h3, h4⟩
  · exact .inl h1
  · exact .inr ⟨g, cap, cur, h1, h2, (hb.block g (Array.getElem?_eq_some_iff.1 h3).1).trans h3, h4⟩
/-- How Leaves stands between two leaves. -/
def LvI (n₀ : Nat) (w : World) (b : Nat) (s : List Lf) (W : World) : Prop :=
  ∃ lv, (W.heap[b]? = some (.cells #[lv] 65 (0, 0)) ∧ W.ownsRow n₀ 73 2 lv s.length (leafCells (s.map Lf.pair))) ∧ Below n₀ w W
theorem LvI.turn {n₀ : Nat} {w : World} {b B : Nat} (hb : b < B) (hw : n₀ ≤ B) (h0 : n₀ ≤ w.heap.size) (s : List Lf) (A A' : World) (h : LvI n₀ w b s A) (h1 : Turn (fun o => isRow o ∨ Odd o) B A A') : LvI n₀ w b s A' := by
  obtain ⟨lv, ⟨h2, h4⟩, h6⟩ := h
  refine ⟨lv, ⟨h1.block b _ h2 (.inl hb), ?_⟩, h6.trans ((h1.mono (fun _ h => h) hw).below (Nat.le_trans h0 h6.size))⟩
  refine ⟨h4.1, ?_⟩
  rcases h4.2 with h | ⟨g, cap, cur, e1, e2, e3, e4⟩
  · exact .inl h
  · refine .inr ⟨g, cap, cur, e1, e2, h1.block g _ e3 (.inr ?_), e4⟩
    rintro (⟨c, e⟩ | e) <;> cases e
theorem own_turn {P : Obj → Prop} {N : Nat} {w w' : World} {B n z : Nat} {e : TypeId} {v : Value} {xs : List Value} (h : w.ownsRow B e z v n xs) (ht : Turn P N w w') (hP : ∀ cur, ¬ P (.cells cur e (0, 0))) : w'.ownsRow B e z v n xs := by
  refine ⟨h.1, ?_⟩
  rcases h.2 with h1 | ⟨g, cap, cur, h1, h2, h3, h4⟩
  · exact .inl h1
  · exact .inr ⟨g, cap, cur, h1, h2, ht.block g _ h3 (.inr (hP cur)), h4⟩
theorem own_at {w : World} {B n z : Nat} {e : TypeId} {v : Value} {xs : List Value} (h : w.ownsRow B e z v n xs) {g : Nat} (hg : v.ownBlock = some g) : B ≤ g ∧ ∃ cur, w.heap[g]? = some (.cells cur e (0, 0)) := by
  rcases h.2 with ⟨h1, _⟩ | ⟨g', cap, cur, h1, h2, h3, h4⟩
  · rw [h1] at hg; cases hg
  · rw [h1] at hg
    simp [Value.ownBlock] at hg
    subst hg
    exact ⟨h2, cur, h3⟩
theorem lv_next {n₀ b g cap : Nat} {wl W w3 w4 : World} {lv : Value} {pre : List Lf} {x : Lf} (hn : n₀ ≤ b) (h0 : n₀ ≤ wl.heap.size) (hb : W.heap[b]? = some (.cells #[lv] 65 (0, 0))) (ho : W.ownsRow n₀ 73 2 lv pre.length (leafCells (pre.map Lf.pair))) (hB : Below n₀ wl W) (b3 : Below W.heap.size W w3)
    (o4 : w4.ownsRow n₀ 73 2 (.slice (some ⟨g, 0, none⟩) (pre.length + 1) cap) (pre.length + 1) (leafCells (pre.map Lf.pair) ++ [.string (joinB x.ts), .int .i64 (x.k : Int)])) (g4 : w3.grownBy w4 lv.ownBlock) (at4 : lv.ownBlock = some g ∨ g = w3.heap.size) :
    KeepsOthers W (w4.setCell ⟨b, 0, none⟩ (.slice (some ⟨g, 0, none⟩) (pre.length + 1) cap)) ∧ Kp n₀ W (w4.setCell ⟨b, 0, none⟩ (.slice (some ⟨g, 0, none⟩) (pre.length + 1) cap)) ∧ LvI n₀ wl b (pre ++ [x]) (w4.setCell ⟨b, 0, none⟩ (.slice (some ⟨g, 0, none⟩) (pre.length + 1) cap)) := by
  have hbW : b < W.heap.size := (Array.getElem?_eq_some_iff.1 hb).1
  have hne : ∀ g', lv.ownBlock = some g' → g' ≠ b := by
    rintro g' hg' rfl
    obtain ⟨-, cur, hc⟩ := own_at ho hg'
    rw [hb] at hc
    cases hc
  have hb4 : w4.heap[b]? = some (.cells #[lv] 65 (0, 0)) := by
    rw [g4.block b (Nat.lt_of_lt_of_le hbW b3.size) (fun e => hne b e.symm rfl), b3.block b hbW]; exact hb
  have keep : ∀ (k : Nat) (o : Obj), W.heap[k]? = some o → k ≠ b → some k ≠ lv.ownBlock → (w4.setCell ⟨b, 0, none⟩ (.slice (some ⟨g, 0, none⟩) (pre.length + 1) cap)).heap[k]? = some o := by
    intro k o hk h1 h2
    have hkW : k < W.heap.size := (Array.getElem?_eq_some_iff.1 hk).1
    rw [Below.heap_setCell _ _ _ _ h1, g4.block k (Nat.lt_of_lt_of_le hkW b3.size) h2, b3.block k hkW]; exact hk
  have hsz : W.heap.size ≤ (w4.setCell ⟨b, 0, none⟩ (.slice (some ⟨g, 0, none⟩) (pre.length + 1) cap)).heap.size := by simp; exact Nat.le_trans b3.size g4.size
  have hT : Kp n₀ W (w4.setCell ⟨b, 0, none⟩ (.slice (some ⟨g, 0, none⟩) (pre.length + 1) cap)) := by
    refine ⟨g4.os.trans b3.os, g4.tape.trans b3.tape, g4.output.trans b3.output, hsz, fun k o hk hp => ?_⟩
    refine keep k o hk ?_ ?_
    · rintro rfl
      rw [hb] at hk
      cases hk
      rcases hp with hp | hp
      · omega
      · exact hp (by rintro ⟨c, e | e⟩ <;> cases e)
    · intro e
      obtain ⟨h1, cur, hc⟩ := own_at ho e.symm
      rw [hk] at hc
      cases hc
      rcases hp with hp | hp
      · omega
      · exact hp (by rintro ⟨c, e | e⟩ <;> cases e)
  refine ⟨⟨hsz, fun k o hk hcell => keep k o hk ?_ ?_⟩, hT, .slice (some ⟨g, 0, none⟩) (pre.length + 1) cap, ⟨one_setCell hb4, ?_⟩, hB.trans (Turn.below hT (Nat.le_trans h0 hB.size))⟩
  · rintro rfl
    rw [hb] at hk
    cases hk
    cases hcell
  · intro e
    obtain ⟨h1, cur, hc⟩ := own_at ho e.symm
    rw [hk] at hc
    cases hc
    cases hcell
  · have hgb : g ≠ b := by
      rcases at4 with h | h
      · exact hne g h
      · have := b3.size; omega
    have h5 := ownsRow_setCell_other o4 (a := ⟨b, 0, none⟩) (fun e => hgb (by simpa [Value.ownBlock] using e)) (.slice (some ⟨g, 0, none⟩) (pre.length + 1) cap)
    have e1 : (pre ++ [x]).length = pre.length + 1 := by simp
    have e2 : leafCells ((pre ++ [x]).map Lf.pair) = leafCells (pre.map Lf.pair) ++ [.string (joinB x.ts), .int .i64 (x.k : Int)] := by simp [leafCells, Lf.pair]
    rw [e1, e2]
    exact h5
theorem leaf_number (Ad : Nat → Addr) (k : Nat) (w : World) (hE : Env w Ad) (h1 : 1 ≤ k) (h2 : k ≤ 18) :
    Calls Tryz.prog 44 #[.iface 262 (.pointer (some (Ad k)))] w fun e w' => e = .returned (.int .i64 (k : Int)) ∧ Below w.heap.size w w' := by
  have h := number_some Ad (.iface 262 (.pointer (some (Ad k)))) [([], k)] 0 w hE (.leaf 0 k ⟨h1, h2⟩) (by omega) ⟨_, _, rfl⟩
  obtain ⟨j, rfl⟩ : ∃ j, k = j + 1 := ⟨k - 1, by omega⟩
  rw [show numOf ([([], j + 1)].map Prod.snd) = ((j + 1 : Nat) : Int) by show numOf [j + 1] = _; rw [numOf_one j (by omega)]; rfl] at h
  exact h
set_option maxHeartbeats 2000000 in
set_option maxRecDepth 100000 in
theorem leaves_any (Ad : Nat → Addr) (v : Value) (ls : List (List ByteArray × Nat)) (d : Nat) (w : World) (hE : Env w Ad) (hT : Tr Ad w.heap.size w d v ls) (hd : d ≤ 1000) (hs : ∀ p ∈ ls, (joinB p.1).size ≤ 100000 ∧ p.1.length ≤ 1000) (hl : ls.length ≤ 1000) :
    Calls Tryz.prog 21 #[v] w fun e w' => ∃ lv, e = .returned lv ∧ w'.ownsRow w.heap.size 73 2 lv ls.length (leafCells ls) ∧ Below w.heap.size w w' := by
  have HV := hid hT.isIface
  have HT := hid hT
  have HE := hid hE
  clear hT hE
  refine callsIn_wide (n := 5) |>.1 ?_
  refine callsIn_of_wp_marks Tryz.func21 rfl trivial ?_ rfl
  simp only [Tryz.ntmps21, List.size_toArray, List.length_cons, List.length_nil, Nat.reduceAdd, Nat.reduceSub, Array.replicate_succ, Array.replicate_zero, List.push_toArray, List.append_toArray, List.nil_append, List.cons_append]
  gi_wp2_with fail
  refine ⟨trivial, ?_⟩
  refine (callsIn_wide.2 (parts_any v HV.out _)).mono ?_
  rintro e w' ⟨rfl, rfl⟩
  gi_wp2_with fail
  obtain ⟨wl, hwl⟩ : ∃ wl, wl = (w.alloc (.cells #[.slice none 0 0] 65)).alloc (.cells #[v] 46) := ⟨_, rfl⟩
  rw [← hwl]
  have hsz : wl.heap.size = w.heap.size + 1 + 1 := by rw [hwl]; simp
  have hb0 : Below w.heap.size w wl := by rw [hwl]; exact ((Below.refl _ _).alloc (Nat.le_refl _) _).alloc (by simp) _
  have hb1 : Below (w.heap.size + 1) (w.alloc (.cells #[.slice none 0 0] 65)) wl := by rw [hwl]; exact (Below.refl _ _).alloc (by simp) _
  have hblk : wl.heap[w.heap.size]? = some (.cells #[.slice none 0 0] 65 (0, 0)) := (hb1.block w.heap.size (by omega)).trans (heap_alloc_new w _)
  have c2 : wl.cell? ⟨w.heap.size + 1, 0, none⟩ = some v := by
    rw [hwl]
    have := new_cell (w.alloc (.cells #[.slice none 0 0] 65)) v 46
    rw [World.size_alloc] at this
    exact this
  refine range_law (P := Tryz.prog) rfl (by decide) (gf := 75) (lb := #[.pointer (some ⟨w.heap.size + 1, 0, none⟩)]) rfl trivial (enters_of Tryz.func75 (by kernel_rfl) rfl)
    (encs Ad) (fun _ => rfl) isRow isRow_cells (Handed wl.heap.size ls) (LvI w.heap.size wl w.heap.size) (fun _ _ _ => False) (Kp w.heap.size)
    (fun xs => xs.map Lf.pair = ls) (fun xs => xs.map Lf.pair <+: ls)
    ?hR (LvI.turn (by omega) (by omega) (by omega)) (fun _ _ _ _ h _ => h) ⟨.slice none 0 0, ⟨hblk, World.ownsRow_nil _ _ _ _⟩, Below.refl _ _⟩ w.heap.size ?hBi (fun _ _ _ h => h.elim) ?hKt ?hKb
    (parts_seq Ad w.heap.size (w.heap.size + 1) d w wl v ls _ _ HT.out hd hb0 (by omega) (by omega) c2)
    (fun x => { tmps := #[v, undef, .slice none 0 0, .pointer (some ⟨w.heap.size, 0, none⟩), x.tv, .iface 262 (.pointer (some (Ad x.k))), v, .func (.func 75) #[] #[.pointer (some ⟨w.heap.size + 1, 0, none⟩)], x.tv, .iface 262 (.pointer (some (Ad x.k))), undef, undef, undef, undef, undef, undef, undef, undef, undef], defers := [] }) ?assign ?body ?done ?stop
  case hR =>
    rintro s x A B ⟨h1, h2⟩ ht
    exact ⟨own_later h1 fun g cur _ hg => ht.block g _ hg (.inr fun h => by cases h), h2⟩
  case hBi => exact fun s A ⟨_, _, h⟩ => h
  case hKt => exact fun h1 h2 => h1.trans h2
  case hKb => exact fun h => h.mono odd_kept (by omega)
  case assign =>
    intro l x W K hK
    simp only [encs]
    gi_wp2
    exact hK
  case body =>
    rintro l pre x W hlt ⟨lv, ⟨hblkW, ho⟩, hB⟩ ⟨htr, hx1, hx2, hG⟩
    have HG := hid (hs x.pair (hG.subset (by simp)))
    have hpl : pre.length < ls.length := by have := hG.length_le; simp at this; omega
    have HTR := hid htr
    have HO := hid ho
    have EW := hid (HE.out.later (hb0.trans hB))
    have HB := hid hB
    have HBW := hid hblkW
    have hbW : w.heap.size < W.heap.size := (Array.getElem?_eq_some_iff.1 hblkW).1
    have hc := cell_of_one hblkW
    have hf := free_of_one hblkW
    clear hs hG htr ho hB hblkW
    gi_wp2_with fail
    refine region_round0 (by kernel_rfl) (by kernel_rfl) (by rintro ⟨a, w, h⟩; exact h) ?_
    refine wpAny_take (i := 1) (v := x.tv) rfl (by kernel_rfl) (by kernel_rfl) (by kernel_rfl) (fun _ _ _ h => h) (.inl ⟨by rfl, fun W' => ?_⟩) ?_
    · go_simp
    refine wpAny_take (i := 3) (v := .iface 262 (.pointer (some (Ad x.k)))) rfl (by kernel_rfl) (by kernel_rfl) (by kernel_rfl) (fun _ _ _ h => h) (.inl ⟨by rfl, fun W' => ?_⟩) ?_
    · go_simp
    refine wpAny_ready (rs := [0, 2]) (by kernel_rfl) (by simp) ?_
    refine AllReady.cons rfl (fun K hK => ?_) (AllReady.cons rfl (fun K hK => ?_) AllReady.nil)
    · go_simp
      refine hK _ _ ?_
      clear hK K
      refine wpAny_ready (rs := [2]) (by kernel_rfl) (by simp) ?_
      refine AllReady.cons rfl (fun K hK => ?_) AllReady.nil
      go_simp
      refine (join_any wl.heap.size x.tv x.ts W.drew HTR.out HG.out.2 HG.out.1).mono ?_
      rintro e w1 ⟨rfl, hb1⟩
      have B1 := hid (show Below W.heap.size W w1 from (Below.refl W.heap.size W).drew.trans hb1)
      have c1 : w1.cell? ⟨w.heap.size, 0, none⟩ = some lv := (B1.out.cell (p := ⟨w.heap.size, 0, none⟩) hbW).trans hc
      refine hK _ _ ?_
      clear hK K hb1
      refine wpAny_ready (rs := [4]) (by kernel_rfl) (by simp) ?_
      refine AllReady.cons rfl (fun K hK => ?_) AllReady.nil
      go_simp
      refine (leaf_number Ad x.k w1 (EW.out.later B1.out) hx1 hx2).mono ?_
      rintro e w2 ⟨rfl, hb2⟩
      have B2 := hid (show Below W.heap.size W w2 from B1.out.trans (hb2.mono B1.out.size))
      have c2 : w2.cell? ⟨w.heap.size, 0, none⟩ = some lv := (B2.out.cell (p := ⟨w.heap.size, 0, none⟩) hbW).trans hc
      refine hK _ _ ?_
      clear hK K hb2
      refine wpAny_take (i := 5) (v := .agg #[.string (joinB x.ts), .int .i64 (x.k : Int)]) rfl (by kernel_rfl) (by kernel_rfl) (by kernel_rfl) (fun _ _ _ h => h) (.inl ⟨by rfl, fun W' => ?_⟩) ?_
      · go_simp
      refine wpAny_ready (rs := [6]) (by kernel_rfl) (by simp) ?_
      refine AllReady.cons rfl (fun K hK => ?_) AllReady.nil
      go_simp
      refine hK _ _ ?_
      clear hK K
      have B3 := hid (show Below W.heap.size W (w2.alloc (.cells #[.string (joinB x.ts), .int .i64 (x.k : Int)] 73)) from B2.out.alloc B2.out.size _)
      have c3 : (w2.alloc (.cells #[.string (joinB x.ts), .int .i64 (x.k : Int)] 73)).cell? ⟨w.heap.size, 0, none⟩ = some lv := (B3.out.cell (p := ⟨w.heap.size, 0, none⟩) hbW).trans hc
      have f3 : (w2.alloc (.cells #[.string (joinB x.ts), .int .i64 (x.k : Int)] 73)).frozen? ⟨w.heap.size, 0, none⟩ = false := (B3.out.frozen (p := ⟨w.heap.size, 0, none⟩) hbW).trans hf
      have hnew : (w2.alloc (.cells #[.string (joinB x.ts), .int .i64 (x.k : Int)] 73)).heap[w2.heap.size]? = some (.cells #[.string (joinB x.ts), .int .i64 (x.k : Int)] 73 (0, 0)) := heap_alloc_new w2 _
      have hszw : W.heap.size ≤ (w2.alloc (.cells #[.string (joinB x.ts), .int .i64 (x.k : Int)] 73)).heap.size := B3.out.size
      generalize hw3 : w2.alloc (.cells #[.string (joinB x.ts), .int .i64 (x.k : Int)] 73) = w3 at *
      have O3 : Hid (w3.ownsRow w.heap.size 73 2 lv pre.length (leafCells (pre.map Lf.pair))) := own_far HO.out B3.out
      clear hw3
      refine wpAny_ready (rs := [7]) (by kernel_rfl) (by simp) ?_
      refine AllReady.cons rfl (fun K hK => ?_) AllReady.nil
      rw [if_pos (by rfl)]
      obtain ⟨i0, hi, hz0, hz1, hz2⟩ := info_parts Tryz.infoLeaf
      refine wp_append_lies w3 (.tmp 10) (.tmp 16) 65 rfl w.heap.size 73 i0 (.agg #[.string ⟨#[]⟩, .int .i64 0]) 2 24 Tryz.underlying65 hi hz0 hz1 hz2 rfl (by decide) lv pre.length _ rfl O3.out ⟨w2.heap.size, 0, none⟩ 1 1 [.string (joinB x.ts), .int .i64 (x.k : Int)] rfl rfl (World.news_of_block hnew) (by intro u hu; simp at hu; rcases hu with rfl | rfl <;> rfl) (by decide) (by simp [maxLen]; omega) (by omega) (by omega) w3.heap.size rfl ?_
      intro g cap w4 o4 g4 at4 lt4
      have N4 := hid (lv_next (x := x) (Nat.le_refl _) (by omega) HBW.out HO.out HB.out B3.out o4 g4 at4)
      have hne4 : some w.heap.size ≠ lv.ownBlock := by
        intro e
        obtain ⟨-, cur, hcur⟩ := own_at HO.out e.symm
        rw [HBW.out] at hcur
        cases hcur
      have c4 : w4.cell? ⟨w.heap.size, 0, none⟩ = some lv := (g4.cell_far ⟨w.heap.size, 0, none⟩ (by show w.heap.size < _; omega) hne4).trans c3
      have f4 : w4.frozen? ⟨w.heap.size, 0, none⟩ = false := (g4.frozen_far ⟨w.heap.size, 0, none⟩ (by show w.heap.size < _; omega) hne4).trans f3
      refine hK _ _ ?_
      clear hK K o4 g4 at4 hne4 c3 f3
      refine wpAny_ready (rs := [8]) (by kernel_rfl) (by simp) ?_
      refine AllReady.cons rfl (fun K hK => ?_) AllReady.nil
      go_simp
      refine hK _ _ ?_
      clear hK K
      refine wpAny_done (by kernel_rfl) ?_ _
      exact N4.out
    · go_simp
      refine (join_any wl.heap.size x.tv x.ts W.drew HTR.out HG.out.2 HG.out.1).mono ?_
      rintro e w1 ⟨rfl, hb1⟩
      have B1 := hid (show Below W.heap.size W w1 from (Below.refl W.heap.size W).drew.trans hb1)
      have c1 : w1.cell? ⟨w.heap.size, 0, none⟩ = some lv := (B1.out.cell (p := ⟨w.heap.size, 0, none⟩) hbW).trans hc
      refine hK _ _ ?_
      clear hK K hb1
      refine wpAny_ready (rs := [0, 4]) (by kernel_rfl) (by simp) ?_
      refine AllReady.cons rfl (fun K hK => ?_) (AllReady.cons rfl (fun K hK => ?_) AllReady.nil)
      · go_simp
        refine hK _ _ ?_
        clear hK K
        refine wpAny_ready (rs := [4]) (by kernel_rfl) (by simp) ?_
        refine AllReady.cons rfl (fun K hK => ?_) AllReady.nil
        go_simp
        refine (leaf_number Ad x.k w1 (EW.out.later B1.out) hx1 hx2).mono ?_
        rintro e w2 ⟨rfl, hb2⟩
        have B2 := hid (show Below W.heap.size W w2 from B1.out.trans (hb2.mono B1.out.size))
        have c2 : w2.cell? ⟨w.heap.size, 0, none⟩ = some lv := (B2.out.cell (p := ⟨w.heap.size, 0, none⟩) hbW).trans hc
        refine hK _ _ ?_
        clear hK K hb2
        refine wpAny_take (i := 5) (v := .agg #[.string (joinB x.ts), .int .i64 (x.k : Int)]) rfl (by kernel_rfl) (by kernel_rfl) (by kernel_rfl) (fun _ _ _ h => h) (.inl ⟨by rfl, fun W' => ?_⟩) ?_
        · go_simp
        refine wpAny_ready (rs := [6]) (by kernel_rfl) (by simp) ?_
        refine AllReady.cons rfl (fun K hK => ?_) AllReady.nil
        go_simp
        refine hK _ _ ?_
        clear hK K
        have B3 := hid (show Below W.heap.size W (w2.alloc (.cells #[.string (joinB x.ts), .int .i64 (x.k : Int)] 73)) from B2.out.alloc B2.out.size _)
        have c3 : (w2.alloc (.cells #[.string (joinB x.ts), .int .i64 (x.k : Int)] 73)).cell? ⟨w.heap.size, 0, none⟩ = some lv := (B3.out.cell (p := ⟨w.heap.size, 0, none⟩) hbW).trans hc
        have f3 : (w2.alloc (.cells #[.string (joinB x.ts), .int .i64 (x.k : Int)] 73)).frozen? ⟨w.heap.size, 0, none⟩ = false := (B3.out.frozen (p := ⟨w.heap.size, 0, none⟩) hbW).trans hf
        have hnew : (w2.alloc (.cells #[.string (joinB x.ts), .int .i64 (x.k : Int)] 73)).heap[w2.heap.size]? = some (.cells #[.string (joinB x.ts), .int .i64 (x.k : Int)] 73 (0, 0)) := heap_alloc_new w2 _
        have hszw : W.heap.size ≤ (w2.alloc (.cells #[.string (joinB x.ts), .int .i64 (x.k : Int)] 73)).heap.size := B3.out.size
        generalize hw3 : w2.alloc (.cells #[.string (joinB x.ts), .int .i64 (x.k : Int)] 73) = w3 at *
        have O3 : Hid (w3.ownsRow w.heap.size 73 2 lv pre.length (leafCells (pre.map Lf.pair))) := own_far HO.out B3.out
        clear hw3
        refine wpAny_ready (rs := [7]) (by kernel_rfl) (by simp) ?_
        refine AllReady.cons rfl (fun K hK => ?_) AllReady.nil
        rw [if_pos (by rfl)]
        obtain ⟨i0, hi, hz0, hz1, hz2⟩ := info_parts Tryz.infoLeaf
        refine wp_append_lies w3 (.tmp 10) (.tmp 16) 65 rfl w.heap.size 73 i0 (.agg #[.string ⟨#[]⟩, .int .i64 0]) 2 24 Tryz.underlying65 hi hz0 hz1 hz2 rfl (by decide) lv pre.length _ rfl O3.out ⟨w2.heap.size, 0, none⟩ 1 1 [.string (joinB x.ts), .int .i64 (x.k : Int)] rfl rfl (World.news_of_block hnew) (by intro u hu; simp at hu; rcases hu with rfl | rfl <;> rfl) (by decide) (by simp [maxLen]; omega) (by omega) (by omega) w3.heap.size rfl ?_
        intro g cap w4 o4 g4 at4 lt4
        have N4 := hid (lv_next (x := x) (Nat.le_refl _) (by omega) HBW.out HO.out HB.out B3.out o4 g4 at4)
        have hne4 : some w.heap.size ≠ lv.ownBlock := by
          intro e
          obtain ⟨-, cur, hcur⟩ := own_at HO.out e.symm
          rw [HBW.out] at hcur
          cases hcur
        have c4 : w4.cell? ⟨w.heap.size, 0, none⟩ = some lv := (g4.cell_far ⟨w.heap.size, 0, none⟩ (by show w.heap.size < _; omega) hne4).trans c3
        have f4 : w4.frozen? ⟨w.heap.size, 0, none⟩ = false := (g4.frozen_far ⟨w.heap.size, 0, none⟩ (by show w.heap.size < _; omega) hne4).trans f3
        refine hK _ _ ?_
        clear hK K o4 g4 at4 hne4 c3 f3
        refine wpAny_ready (rs := [8]) (by kernel_rfl) (by simp) ?_
        refine AllReady.cons rfl (fun K hK => ?_) AllReady.nil
        go_simp
        refine hK _ _ ?_
        clear hK K
        refine wpAny_done (by kernel_rfl) ?_ _
        exact N4.out
      · go_simp
        refine (leaf_number Ad x.k w1 (EW.out.later B1.out) hx1 hx2).mono ?_
        rintro e w2 ⟨rfl, hb2⟩
        have B2 := hid (show Below W.heap.size W w2 from B1.out.trans (hb2.mono B1.out.size))
        have c2 : w2.cell? ⟨w.heap.size, 0, none⟩ = some lv := (B2.out.cell (p := ⟨w.heap.size, 0, none⟩) hbW).trans hc
        refine hK _ _ ?_
        clear hK K hb2
        refine wpAny_take (i := 5) (v := .agg #[.string (joinB x.ts), .int .i64 (x.k : Int)]) rfl (by kernel_rfl) (by kernel_rfl) (by kernel_rfl) (fun _ _ _ h => h) (.inl ⟨by rfl, fun W' => ?_⟩) ?_
        · go_simp
        refine wpAny_ready (rs := [0, 6]) (by kernel_rfl) (by simp) ?_
        refine AllReady.cons rfl (fun K hK => ?_) (AllReady.cons rfl (fun K hK => ?_) AllReady.nil)
        · go_simp
          refine hK _ _ ?_
          clear hK K
          refine wpAny_ready (rs := [6]) (by kernel_rfl) (by simp) ?_
          refine AllReady.cons rfl (fun K hK => ?_) AllReady.nil
          go_simp
          refine hK _ _ ?_
          clear hK K
          have B3 := hid (show Below W.heap.size W (w2.alloc (.cells #[.string (joinB x.ts), .int .i64 (x.k : Int)] 73)) from B2.out.alloc B2.out.size _)
          have c3 : (w2.alloc (.cells #[.string (joinB x.ts), .int .i64 (x.k : Int)] 73)).cell? ⟨w.heap.size, 0, none⟩ = some lv := (B3.out.cell (p := ⟨w.heap.size, 0, none⟩) hbW).trans hc
          have f3 : (w2.alloc (.cells #[.string (joinB x.ts), .int .i64 (x.k : Int)] 73)).frozen? ⟨w.heap.size, 0, none⟩ = false := (B3.out.frozen (p := ⟨w.heap.size, 0, none⟩) hbW).trans hf
          have hnew : (w2.alloc (.cells #[.string (joinB x.ts), .int .i64 (x.k : Int)] 73)).heap[w2.heap.size]? = some (.cells #[.string (joinB x.ts), .int .i64 (x.k : Int)] 73 (0, 0)) := heap_alloc_new w2 _
          have hszw : W.heap.size ≤ (w2.alloc (.cells #[.string (joinB x.ts), .int .i64 (x.k : Int)] 73)).heap.size := B3.out.size
          generalize hw3 : w2.alloc (.cells #[.string (joinB x.ts), .int .i64 (x.k : Int)] 73) = w3 at *
          have O3 : Hid (w3.ownsRow w.heap.size 73 2 lv pre.length (leafCells (pre.map Lf.pair))) := own_far HO.out B3.out
          clear hw3
          refine wpAny_ready (rs := [7]) (by kernel_rfl) (by simp) ?_
          refine AllReady.cons rfl (fun K hK => ?_) AllReady.nil
          rw [if_pos (by rfl)]
          obtain ⟨i0, hi, hz0, hz1, hz2⟩ := info_parts Tryz.infoLeaf
          refine wp_append_lies w3 (.tmp 10) (.tmp 16) 65 rfl w.heap.size 73 i0 (.agg #[.string ⟨#[]⟩, .int .i64 0]) 2 24 Tryz.underlying65 hi hz0 hz1 hz2 rfl (by decide) lv pre.length _ rfl O3.out ⟨w2.heap.size, 0, none⟩ 1 1 [.string (joinB x.ts), .int .i64 (x.k : Int)] rfl rfl (World.news_of_block hnew) (by intro u hu; simp at hu; rcases hu with rfl | rfl <;> rfl) (by decide) (by simp [maxLen]; omega) (by omega) (by omega) w3.heap.size rfl ?_
          intro g cap w4 o4 g4 at4 lt4
          have N4 := hid (lv_next (x := x) (Nat.le_refl _) (by omega) HBW.out HO.out HB.out B3.out o4 g4 at4)
          have hne4 : some w.heap.size ≠ lv.ownBlock := by
            intro e
            obtain ⟨-, cur, hcur⟩ := own_at HO.out e.symm
            rw [HBW.out] at hcur
            cases hcur
          have c4 : w4.cell? ⟨w.heap.size, 0, none⟩ = some lv := (g4.cell_far ⟨w.heap.size, 0, none⟩ (by show w.heap.size < _; omega) hne4).trans c3
          have f4 : w4.frozen? ⟨w.heap.size, 0, none⟩ = false := (g4.frozen_far ⟨w.heap.size, 0, none⟩ (by show w.heap.size < _; omega) hne4).trans f3
          refine hK _ _ ?_
          clear hK K o4 g4 at4 hne4 c3 f3
          refine wpAny_ready (rs := [8]) (by kernel_rfl) (by simp) ?_
          refine AllReady.cons rfl (fun K hK => ?_) AllReady.nil
          go_simp
          refine hK _ _ ?_
          clear hK K
          refine wpAny_done (by kernel_rfl) ?_ _
          exact N4.out
        · go_simp
          refine hK _ _ ?_
          clear hK K
          have B3 := hid (show Below W.heap.size W (w2.alloc (.cells #[.string (joinB x.ts), .int .i64 (x.k : Int)] 73)) from B2.out.alloc B2.out.size _)
          have c3 : (w2.alloc (.cells #[.string (joinB x.ts), .int .i64 (x.k : Int)] 73)).cell? ⟨w.heap.size, 0, none⟩ = some lv := (B3.out.cell (p := ⟨w.heap.size, 0, none⟩) hbW).trans hc
          have f3 : (w2.alloc (.cells #[.string (joinB x.ts), .int .i64 (x.k : Int)] 73)).frozen? ⟨w.heap.size, 0, none⟩ = false := (B3.out.frozen (p := ⟨w.heap.size, 0, none⟩) hbW).trans hf
          have hnew : (w2.alloc (.cells #[.string (joinB x.ts), .int .i64 (x.k : Int)] 73)).heap[w2.heap.size]? = some (.cells #[.string (joinB x.ts), .int .i64 (x.k : Int)] 73 (0, 0)) := heap_alloc_new w2 _
          have hszw : W.heap.size ≤ (w2.alloc (.cells #[.string (joinB x.ts), .int .i64 (x.k : Int)] 73)).heap.size := B3.out.size
          generalize hw3 : w2.alloc (.cells #[.string (joinB x.ts), .int .i64 (x.k : Int)] 73) = w3 at *
          have O3 : Hid (w3.ownsRow w.heap.size 73 2 lv pre.length (leafCells (pre.map Lf.pair))) := own_far HO.out B3.out
          clear hw3
          refine wpAny_ready (rs := [0]) (by kernel_rfl) (by simp) ?_
          refine AllReady.cons rfl (fun K hK => ?_) AllReady.nil
          go_simp
          refine hK _ _ ?_
          clear hK K
          refine wpAny_ready (rs := [7]) (by kernel_rfl) (by simp) ?_
          refine AllReady.cons rfl (fun K hK => ?_) AllReady.nil
          rw [if_pos (by rfl)]
          obtain ⟨i0, hi, hz0, hz1, hz2⟩ := info_parts Tryz.infoLeaf
          refine wp_append_lies w3 (.tmp 10) (.tmp 16) 65 rfl w.heap.size 73 i0 (.agg #[.string ⟨#[]⟩, .int .i64 0]) 2 24 Tryz.underlying65 hi hz0 hz1 hz2 rfl (by decide) lv pre.length _ rfl O3.out ⟨w2.heap.size, 0, none⟩ 1 1 [.string (joinB x.ts), .int .i64 (x.k : Int)] rfl rfl (World.news_of_block hnew) (by intro u hu; simp at hu; rcases hu with rfl | rfl <;> rfl) (by decide) (by simp [maxLen]; omega) (by omega) (by omega) w3.heap.size rfl ?_
          intro g cap w4 o4 g4 at4 lt4
          have N4 := hid (lv_next (x := x) (Nat.le_refl _) (by omega) HBW.out HO.out HB.out B3.out o4 g4 at4)
          have hne4 : some w.heap.size ≠ lv.ownBlock := by
            intro e
            obtain ⟨-, cur, hcur⟩ := own_at HO.out e.symm
            rw [HBW.out] at hcur
            cases hcur
          have c4 : w4.cell? ⟨w.heap.size, 0, none⟩ = some lv := (g4.cell_far ⟨w.heap.size, 0, none⟩ (by show w.heap.size < _; omega) hne4).trans c3
          have f4 : w4.frozen? ⟨w.heap.size, 0, none⟩ = false := (g4.frozen_far ⟨w.heap.size, 0, none⟩ (by show w.heap.size < _; omega) hne4).trans f3
          refine hK _ _ ?_
          clear hK K o4 g4 at4 hne4 c3 f3
          refine wpAny_ready (rs := [8]) (by kernel_rfl) (by simp) ?_
          refine AllReady.cons rfl (fun K hK => ?_) AllReady.nil
          go_simp
          refine hK _ _ ?_
          clear hK K
          refine wpAny_done (by kernel_rfl) ?_ _
          exact N4.out
  case done =>
    rintro D ys W hD hS ⟨lv, ⟨hblkW, ho⟩, hB⟩ hK
    have hc := cell_of_one hblkW
    have hT : Turn Odd w.heap.size W (W.putObj D (.deferred none)) := Turn.put _ (by omega) hK rfl
    have ho2 := own_turn ho hT (fun cur h => by cases h)
    have el : ys.length = ls.length := by rw [← hS]; simp
    rw [hS, el] at ho2
    have HO := hid ho2
    have HB := hid ((hb0.trans hB).trans (hT.below (Nat.le_trans hb0.size hB.size)))
    clear ho2 ho hT
    gi_wp2
    refine ⟨by simp, .inl ⟨_, _, rfl, run_takeDeferred hK, ?_⟩⟩
    exact ⟨_, results_tmp rfl _ _ _, ⟨lv, rfl, HO.out, HB.out⟩⟩
  case stop =>
    rintro D c pre W hD hS h hK
    exact h.elim
end Go.Proofs.YtoafpfheopgdkaaGreatDoor
namespace Go.Proofs.YtoafpfheopgdkaaGreatDoor.Sc
open Go.RowKit Go.Shelf
/-- append of a row of errors onto an owned one: what was not the owned block stays. -/
theorem wpList_errsG (w : World) {ops : Array Oper} {rest : List Oper} {o : Oper} {a : Act} {Q : Exit → Act → World → Prop} (hgd : o.guard = none) (s x : Operand)
    (ho : o.op = .call { callee := .builtin .append, args := #[s, x], argTypes := #[142, 142] })
    (base : Nat) (v : Value) (xs : List Value) (hs : a.eval s = v) (hown : w.ownsRow base 46 1 v xs.length xs)
    (g c : Nat) (l : List Value) (hx : a.eval x = .slice (some ⟨g, 0, none⟩) l.length c) (hrow : ∀ (j : Nat) u, l[j]? = some u → w.cell? ⟨g, j, none⟩ = some u) (h1 : ∀ u ∈ l, u.oneCell' = true) (hlen : xs.length + l.length ≤ 5000) (hbase : base ≤ w.heap.size)
    (h : ∀ ga gc (y : List Value) w', Hid (y = xs ++ l) → Hid (w'.ownsRow base 46 1 (.slice ga y.length gc) y.length y) → Hid (w.grownBy w' v.ownBlock) → Hid (Below base w w') → wpList Tryz.prog ops Q rest (a.put o.dst (.slice ga y.length gc)) w') :
    wpList Tryz.prog ops Q (o :: rest) a w := by
  obtain ⟨i0, hi, hz0, hz1, hz2⟩ := info_parts Tryz.infoErr
  refine wpList_append_own_at w hgd s x 142 ho base 46 i0 .nilIface 1 16 Tryz.underlying142 hi hz0 hz1 hz2 rfl (by decide) v xs.length xs hs hown ⟨g, 0, none⟩ l.length c l hx (by simp) (fun j u hu => by rw [add_at]; exact hrow j u hu) h1 (by simp [maxLen]; omega) (by omega) hbase ?_
  intro v' w' hown' hgrow _ _
  have e : xs.length + l.length = (xs ++ l).length := by simp
  rw [e] at hown'
  obtain ⟨ga, gc, rfl⟩ := own_slice hown'
  exact h ga gc (xs ++ l) w' rfl hown' hgrow ((Below.refl _ _).grown hgrow hbase (fun k hk => own_block hown hk))
/-- No text lies at a row's head. -/
def NoText (w : World) (g : Nat) : Prop := ∀ s, w.cell? ⟨g, 0, none⟩ ≠ some (.string s)
theorem _root_.Go.Proofs.YtoafpfheopgdkaaGreatDoor.Ch.grown {Ad : Nat → Addr} {n₀ k g : Nat} {W W' : World} (hg : W.grownBy W' (some g)) (hn : n₀ ≤ W.heap.size) (hr : NoText W g) : ∀ {us : List ByteArray} {v : Value}, Ch Ad n₀ W k us v → Ch Ad n₀ W' k us v
  | [], _, h => h
  | s :: us, _, ⟨b, inner, hv, hb, c0, c1, hi⟩ => by
    have hne : b ≠ g := fun e => hr s (by rw [← e]; exact c0)
    have hbl := hg.block b (by omega) (fun e => hne (by simpa using e))
    exact ⟨b, inner, hv, hb, (World.cell?_of_block (w := W) (a := ⟨b, 0, none⟩) hbl).trans c0, (World.cell?_of_block (w := W) (a := ⟨b, 1, none⟩) hbl).trans c1, Ch.grown hg hn hr hi⟩
/-- One error of a row: none, or one leaf. -/
def One (Ad : Nat → Addr) (n₀ : Nat) (W : World) (v : Value) (ls : List (List ByteArray × Nat)) : Prop := (v = .nilIface ∧ ls = []) ∨ ∃ p, ls = [p] ∧ Chn Ad n₀ W 3 v p
theorem One.top {Ad : Nat → Addr} {n₀ : Nat} {W : World} {v : Value} {ls : List (List ByteArray × Nat)} (h : One Ad n₀ W v ls) : Top Ad n₀ W 3 v ls := by
  rcases h with ⟨rfl, rfl⟩ | ⟨p, rfl, h⟩
  · exact .empty
  · exact .one _ _ h
theorem One.move {Ad : Nat → Addr} {n₀ n₁ : Nat} {W W' : World} {v : Value} {ls : List (List ByteArray × Nat)} (h : One Ad n₀ W v ls) (hb : Below n₀ W W') (hn : n₀ ≤ n₁) : One Ad n₁ W' v ls := by
  rcases h with h | ⟨p, h1, h2⟩
  · exact .inl h
  · exact .inr ⟨p, h1, h2.move hb hn⟩
theorem One.grown {Ad : Nat → Addr} {n₀ g : Nat} {W W' : World} {v : Value} {ls : List (List ByteArray × Nat)} (h : One Ad n₀ W v ls) (hg : W.grownBy W' (some g)) (hn : n₀ ≤ W.heap.size) (hr : NoText W g) : One Ad W'.heap.size W' v ls := by
  rcases h with h | ⟨p, h1, h2⟩
  · exact .inl h
  · exact .inr ⟨p, h1, ((h2.1.grown hg hn hr).wider (Nat.le_trans hn hg.size)), h2.2⟩
theorem One.cell {Ad : Nat → Addr} {n₀ : Nat} {W : World} {v : Value} {ls : List (List ByteArray × Nat)} (h : One Ad n₀ W v ls) : v.oneCell' = true ∧ ∀ s, v ≠ .string s := by
  rcases h with ⟨rfl, -⟩ | ⟨p, -, h⟩
  · exact ⟨rfl, by simp⟩
  · obtain ⟨t, q, rfl, -⟩ := h.1.shape
    exact ⟨rfl, by simp⟩
theorem _root_.Go.Proofs.YtoafpfheopgdkaaGreatDoor.Top.single {Ad : Nat → Addr} {n₀ : Nat} {W : World} {v : Value} {ls : List (List ByteArray × Nat)} (h : Top Ad n₀ W 3 v ls) (hl : ls.length ≤ 1) : One Ad n₀ W v ls := by
  cases h using Top.ways with
  | empty => exact .inl ⟨rfl, rfl⟩
  | one v p h => exact .inr ⟨p, rfl, h⟩
  | many b vs h => have := h.two; simp at hl; omega
theorem own_more {w w' : World} {B n z : Nat} {e : TypeId} {v : Value} {xs : List Value} (h : w.ownsRow B e z v n xs) (hb : Below w.heap.size w w') : w'.ownsRow B e z v n xs := by
  refine ⟨h.1, ?_⟩
  rcases h.2 with h1 | ⟨g, cap, cur, h1, h2, h3, h4⟩
  · exact .inl h1
  · exact .inr ⟨g, cap, cur, h1, h2, (hb.block g (Array.getElem?_eq_some_iff.1 h3).1).trans h3, h4⟩
theorem Below.seen {B : Nat} {w w' : World} {p : Addr} {v : Value} (hb : Below B w w') (hB : w.heap.size ≤ B) (h : w.cell? p = some v) : w'.cell? p = some v :=
  (hb.cell (p := p) (Nat.lt_of_lt_of_le (World.block_lt_of_cell? w p h) hB)).trans h
end Go.Proofs.YtoafpfheopgdkaaGreatDoor.Sc
namespace Go.Proofs.YtoafpfheopgdkaaGreatDoor.Sc
open Go.RowKit Go.Shelf
/-- A letter from a to z. -/
def lowB (c : UInt8) : Bool := 97 ≤ c && c ≤ 122
/-- A name. -/
def isNm (s : ByteArray) : Bool := decide (1 ≤ s.size) && decide (s.size ≤ 8) && s.data.toList.all lowB
theorem isNm_none (s : ByteArray) (h : s.size = 0) : isNm s = false := by simp [isNm, h]
theorem isNm_long (s : ByteArray) (h : 8 < s.size) : isNm s = false := by simp [isNm]; omega
theorem take_snoc (s : ByteArray) (k : Nat) (h : k < s.size) : s.data.toList.take (k + 1) = s.data.toList.take k ++ [s[k]] := by
  rw [List.take_succ_eq_append_getElem (by simpa using h)]; rfl
theorem low_iff (c : UInt8) : lowB c = decide (97 ≤ (c.toNat : Int) ∧ (c.toNat : Int) ≤ 122) := by
  unfold lowB
  rw [Bool.eq_iff_iff]; simp [UInt8.le_iff_toNat_le]; omega
theorem isNm_bad (s : ByteArray) (k : Nat) (h : k < s.size) (hb : lowB s[k] = false) : isNm s = false := by
  have : s.data.toList.all lowB = false := List.all_eq_false.2 ⟨s[k], Array.getElem_mem_toList h, by rw [hb]; exact Bool.false_ne_true⟩
  unfold isNm
  rw [this]; simp
theorem isNm_all (s : ByteArray) (h1 : 1 ≤ s.size) (h2 : s.size ≤ 8) (h : (s.data.toList.take s.size).all lowB = true) : isNm s = true := by
  have e : s.data.toList.take s.size = s.data.toList := List.take_of_length_le (by rw [Array.length_toList]; exact Nat.le_refl _)
  rw [e] at h
  unfold isNm
  rw [h]
  simp only [Bool.and_true, Bool.and_eq_true, decide_eq_true_eq]
  exact ⟨h1, h2⟩
theorem all_next (s : ByteArray) (k : Nat) (h : k < s.size) : (s.data.toList.take (k + 1)).all lowB = ((s.data.toList.take k).all lowB && lowB s[k]) := by
  rw [take_snoc s k h, List.all_append]; simp
theorem bytes_cell (w : World) (s : ByteArray) (cap e : Nat) (fr : Nat × Nat) (k : Nat) (hk : k < s.size) : (w.drew.alloc (.cells (bytesRow s cap) e fr)).cell? ⟨w.heap.size, k, none⟩ = some (.int .u8 (s[k].toNat : Int)) := by
  have h : (w.drew.alloc (.cells (bytesRow s cap) e fr)).heap[w.heap.size]? = some (.cells (bytesRow s cap) e fr) := heap_alloc_new w.drew _
  rw [cell_of_row _ _ k _ e fr h]
  exact bytesRow_at s cap k hk
set_option maxHeartbeats 800000 in
set_option maxRecDepth 100000 in
theorem isname_any (s : ByteArray) (w : World) (hs : s.size ≤ 1000) : Calls Tryz.prog 99 #[.string s] w fun e w' => e = .returned (.bool (isNm s)) ∧ Below w.heap.size w w' := by
  have hsi : (s.size : Int) ≤ 1000 := by omega
  by_cases h0 : s.toList = []
  · have R : Hid (isNm s = false) := isNm_none s (by rw [Lib.size_eq, ← Lib.toList_data, h0]; rfl)
    go_enter Tryz.func99, Tryz.ntmps99
    go_wp2_with fail
    go_ret
    exact ⟨by rw [R.out]; rfl, Below.refl _ _⟩
  · have h1 : 1 ≤ s.size := by
      rcases Nat.eq_zero_or_pos s.size with h | h
      · exfalso; apply h0; apply List.eq_nil_of_length_eq_zero; rw [Lib.toList_data, ← Lib.size_eq]; exact h
      · exact h
    have hie : s.toList.isEmpty = false := by simpa using h0
    by_cases h8 : 8 < s.size
    · have q8 : (8 : Int) < (s.size : Int) := by omega
      have R := hid (isNm_long s h8)
      go_enter Tryz.func99, Tryz.ntmps99
      go_wp2_with fail
      go_ret
      exact ⟨by rw [R.out]; rfl, Below.refl _ _⟩
    · have q8 : ¬ ((8 : Int) < (s.size : Int)) := by omega
      have hcv := run_bytes_of_string (P := Tryz.prog) w 9 177 5 s Tryz.underlying9 Tryz.underlying177 Tryz.underlying5
      have BC := hid (bytes_cell w s (grownCap w s.size 0 5) 5 ((bytesRow s (grownCap w s.size 0 5)).size, (bytesRow s (grownCap w s.size 0 5)).size + 1))
      have BB : Hid (Below w.heap.size w (w.drew.alloc (.cells (bytesRow s (grownCap w s.size 0 5)) 5 ((bytesRow s (grownCap w s.size 0 5)).size, (bytesRow s (grownCap w s.size 0 5)).size + 1)))) := (Below.refl _ _).drew.alloc (Nat.le_refl _) _
      generalize w.drew.alloc (.cells (bytesRow s (grownCap w s.size 0 5)) 5 ((bytesRow s (grownCap w s.size 0 5)).size, (bytesRow s (grownCap w s.size 0 5)).size + 1)) = w2 at *
      generalize grownCap w s.size 0 5 = cap at *
      go_enter Tryz.func99, Tryz.ntmps99
      go_wp2_with fail
      go_loop [4, 15] (fun _ i => ∃ k : Nat, k ≤ s.size ∧ i = .int .i64 (k : Int) ∧ Hid ((s.data.toList.take k).all lowB = true)) (fun _ i => s.size - (intOf i).toNat)
      case atStart => exact ⟨0, Nat.zero_le _, rfl, rfl⟩
      case round =>
        obtain ⟨k, hk, rfl, HA⟩ := hrel
        by_cases hlt : k < s.size
        · have AN := hid (all_next s k hlt)
          have LI := low_iff s[k]
          have hki : (k : Int) < (s.size : Int) := by omega
          have hc := BC.out k hlt
          by_cases hb : lowB s[k] = true
          · have hb' : 97 ≤ (s[k].toNat : Int) ∧ (s[k].toNat : Int) ≤ 122 := by rw [LI] at hb; simpa using hb
            have R : Hid ((s.data.toList.take (k + 1)).all lowB = true) := by show _ = _; rw [AN.out, HA.out, hb]; rfl
            clear LI hb AN
            generalize (s[k].toNat : Int) = x at *
            obtain ⟨hb1, hb2⟩ := hb'
            go_wp2_with fail
            go_round
            case rel => exact ⟨k + 1, by omega, by go_num, R.out⟩
            case measure => simp [intOf]; omega
          · have hbf : lowB s[k] = false := by simpa using hb
            have R := hid (isNm_bad s k hlt hbf)
            have hb' : ¬ (97 ≤ (s[k].toNat : Int) ∧ (s[k].toNat : Int) ≤ 122) := by rw [LI] at hb; simpa using hb
            clear LI hb hbf AN
            generalize (s[k].toNat : Int) = x at *
            by_cases hc : x < 97
            · go_wp2_with fail
              go_ret
              exact ⟨by rw [R.out]; rfl, BB.out⟩
            · have hd : (122 : Int) < x := by omega
              go_wp2_with fail
              go_ret
              exact ⟨by rw [R.out]; rfl, BB.out⟩
        · have R : Hid (isNm s = true) := isNm_all s (by omega) (by omega) (by rw [← HA.out, show k = s.size by omega])
          have hki : ¬ ((k : Int) < (s.size : Int)) := by omega
          go_wp2_with fail
          go_ret
          exact ⟨by rw [R.out]; rfl, BB.out⟩
end Go.Proofs.YtoafpfheopgdkaaGreatDoor.Sc
namespace Go.Proofs.YtoafpfheopgdkaaGreatDoor.Sc
open Go.RowKit Go.Shelf Go.Maps
theorem keyed9 : Keyed Tryz.prog 9 := string_keyed Tryz.underlying9
theorem zero95 (w : World) : (zeroValue 162).run Tryz.prog w = .ok (.agg #[]) w := by kernel_rfl
def litS (s : ByteArray) : Lit := .string s.data.toList
/-- A set of names. -/
def SetN (acc : List ByteArray) : DataW Unit := Maps.setOf (.agg []) (acc.map litS)
theorem litS_key (acc : List ByteArray) : ∀ x ∈ acc.map litS, WideAt.IsKeyLit x := by
  intro x hx
  obtain ⟨s, -, rfl⟩ := List.mem_map.1 hx
  exact trivial
/-- Whether a name is among others. -/
def memB (acc : List ByteArray) (s : ByteArray) : Bool := acc.any fun x => x.data.toList == s.data.toList
theorem memB_iff (acc : List ByteArray) (s : ByteArray) : memB acc s = true ↔ s ∈ acc := by
  unfold memB
  rw [List.any_eq_true]
  constructor
  · rintro ⟨x, hx, h⟩
    have : x = s := ByteArray.ext (Array.toList_inj.1 (by simpa using h))
    exact this ▸ hx
  · intro h
    exact ⟨s, h, by simp⟩
theorem has_SetN (acc : List ByteArray) (s : ByteArray) : Maps.has (SetN acc) (litS s) = memB acc s := by
  unfold SetN memB
  rw [Maps.has_setOf _ _ _ (litS_key acc), List.any_map]
  rfl
theorem SetN_snoc (acc : List ByteArray) (s : ByteArray) : SetN (acc ++ [s]) = (SetN acc).put (litS s) (.agg []) := by
  unfold SetN
  rw [List.map_append]
  exact Maps.setOf_snoc _ _ _
def MapN (W : World) (mb n : Nat) (acc : List ByteArray) : Prop := W.ownsMap Tryz.prog 9 (unitElem (H := Unit)) mb n (SetN acc)
/-- What is wrong with a name, where others are taken. -/
def nErr (acc : List ByteArray) (s : ByteArray) : List Nat := if isNm s then (if memB acc s then [9] else []) else [10]
def seenB (acc : List ByteArray) (s : ByteArray) : List ByteArray := if isNm s && !memB acc s then acc ++ [s] else acc
/-- The error of numbers of which there is one at most. -/
def errV (Ad : Nat → Addr) : List Nat → Value
  | [] => .nilIface
  | k :: _ => .iface 262 (.pointer (some (Ad k)))
theorem grown_of_below {W W' : World} (h : Below W.heap.size W W') (row : Option Nat) : W.grownBy W' row := ⟨h.os, h.tape, h.output, h.size, fun k hk _ => h.block k hk⟩
theorem MapN.later {W W' : World} {mb n : Nat} {acc : List ByteArray} (h : MapN W mb n acc) (hb : Below W.heap.size W W') : MapN W' mb n acc := World.ownsMap.kept h (grown_of_below hb none) (by simp)
set_option maxHeartbeats 800000 in
theorem take_any (Ad : Nat → Addr) (W : World) (hE : Env8 W Ad) (mb n : Nat) (acc : List ByteArray) (hm : MapN W mb n acc) (hn : n ≤ 1000) (s : ByteArray) (hs : s.size ≤ 1000) :
    Calls Tryz.prog 63 #[.map (some mb), .string s] W fun e W' => e = .returned (errV Ad (nErr acc s)) ∧ MapN W' mb (n + 1) (seenB acc s) ∧ W.grownBy W' (some mb) := by
  have IC := hid (isname_any s W hs)
  have HM := hid hm
  have HE := hid hE
  have hkey : keyOf Tryz.prog 9 (.string s) = some (litS s) := WideMaps.keyOf_string_mk Tryz.underlying9 (by unfold maxLen; omega)
  have HK := hid hkey
  clear hm hE hkey
  by_cases hi : isNm s = true
  · rw [hi] at IC
    go_enter Tryz.func63, Tryz.ntmps63
    go_wp2_with fail
    refine IC.out.mono ?_
    rintro e w1 ⟨rfl, hb1⟩
    have B1 := hid hb1
    have M1 := hid (HM.out.later hb1)
    have e9 : w1.cell? ⟨2, 0, none⟩ = some (.iface 262 (.pointer (some (Ad 9)))) := (HE.out.later hb1).cell 9 (by decide) (by decide)
    clear hb1 IC
    by_cases hmem : memB acc s = true
    · have R : Hid (errV Ad (nErr acc s) = .iface 262 (.pointer (some (Ad 9)))) := by show _ = _; simp [nErr, hi, hmem, errV]
      have R2 : Hid (seenB acc s = acc) := by show _ = _; simp [seenB, hmem]
      have hh : Maps.has (SetN acc) (litS s) = true := by rw [has_SetN]; exact hmem
      have h3 : 2 < w1.heap.size := World.block_lt_of_cell? w1 _ e9
      have h3n : ¬ (2 = w1.heap.size) := by omega
      clear hmem hi
      go_wp2_with (at_lookup; refine wpList_lookup_own_unit _ rfl _ _ 140 rfl 9 162 keyed9 Tryz.underlying140 (zero95 _) mb n (SetN acc) rfl M1.out _ _ rfl HK.out ?_; rw [hh])
      go_ret
      refine ⟨by rw [R.out]; rfl, ?_, ?_⟩
      · rw [R2.out]
        exact (World.ownsMap.alloc M1.out _).mono (Nat.le_succ _)
      · exact (grown_of_below B1.out _).trans (World.grownBy_alloc _ _ _)
    · have hmf : memB acc s = false := by simpa using hmem
      have R : Hid (errV Ad (nErr acc s) = .nilIface) := by show _ = _; simp [nErr, hi, hmf, errV]
      have R2 : Hid (seenB acc s = acc ++ [s]) := by show _ = _; simp [seenB, hi, hmf]
      have hh : Maps.has (SetN acc) (litS s) = false := by rw [has_SetN]; exact hmf
      have MA := hid (World.ownsMap.alloc M1.out (.cells #[] 162))
      clear hmem hi hmf e9
      go_wp2_with (first | (at_lookup; refine wpList_lookup_own_unit _ rfl _ _ 140 rfl 9 162 keyed9 Tryz.underlying140 (zero95 _) mb n (SetN acc) rfl M1.out _ _ rfl HK.out ?_; rw [hh]) | (at_mapUpdate; refine wpList_mapUpdate_own _ rfl _ _ _ 140 rfl 9 162 keyed9 Tryz.underlying140 (unitElem (H := Unit)) mb n (SetN acc) rfl MA.out (by unfold maxLen; omega) _ _ _ rfl rfl HK.out (.agg []) [] unitElem_mk ?_; intro w2 hown2 hg2))
      go_ret
      refine ⟨by rw [R.out]; rfl, ?_, ?_⟩
      · rw [R2.out]
        show World.ownsMap _ _ _ _ _ _ _
        rw [SetN_snoc]
        exact hown2
      · exact ((grown_of_below B1.out _).trans (World.grownBy_alloc _ _ _)).trans hg2
  · have hif : isNm s = false := by simpa using hi
    rw [hif] at IC
    have R : Hid (errV Ad (nErr acc s) = .iface 262 (.pointer (some (Ad 10)))) := by show _ = _; simp [nErr, hif, errV]
    have R2 : Hid (seenB acc s = acc) := by show _ = _; simp [seenB, hif]
    clear hi hif
    go_enter Tryz.func63, Tryz.ntmps63
    go_wp2_with fail
    refine IC.out.mono ?_
    rintro e w1 ⟨rfl, hb1⟩
    have B1 := hid hb1
    have M1 := hid (HM.out.later hb1)
    have e10 : w1.cell? ⟨7, 0, none⟩ = some (.iface 262 (.pointer (some (Ad 10)))) := (HE.out.later hb1).cell 10 (by decide) (by decide)
    clear hb1 IC
    go_wp2_with fail
    go_ret
    exact ⟨by rw [R.out]; rfl, by rw [R2.out]; exact M1.out.mono (Nat.le_succ _), grown_of_below B1.out _⟩
end Go.Proofs.YtoafpfheopgdkaaGreatDoor.Sc
namespace Go.Proofs.YtoafpfheopgdkaaGreatDoor.Sc
open Go.RowKit Go.Shelf
/-- A number's digits. -/
def dig (i : Nat) : ByteArray := ⟨(Lib.decDigits i).toArray⟩
theorem itoa_any (i : Nat) (hi : i < 100) (w : World) : Calls Tryz.prog 68 #[.int .i64 (i : Int)] w fun e w' => e = .returned (.string (dig i)) ∧ w' = w := Tryz.strconv_Itoa_small i hi w
theorem sent_chn (Ad : Nat → Addr) (n₀ k : Nat) (W : World) (hk : 1 ≤ k ∧ k ≤ 18) : Chn Ad n₀ W 0 (.iface 262 (.pointer (some (Ad k)))) ([], k) := ⟨rfl, hk.1, hk.2, Nat.le_refl _⟩
set_option maxHeartbeats 800000 in
theorem wayat_any (Ad : Nat → Addr) (W : World) (l p : ByteArray) (i : Nat) (hi : i < 100) (ns : List Nat) (hl : ns.length ≤ 1) (hn : ∀ k ∈ ns, 1 ≤ k ∧ k ≤ 18) :
    Calls Tryz.prog 62 #[.string l, .int .i64 (i : Int), .string p, errV Ad ns] W fun e W' => ∃ v', e = .returned v' ∧ One Ad W'.heap.size W' v' (ns.map fun k => ([l, dig i, p], k)) ∧ Below W.heap.size W W' := by
  have IT := hid (itoa_any i hi W)
  match ns, hl, hn with
  | [], _, _ =>
    have A0 := hid (at_nil p W)
    have A1 := hid (at_nil (dig i) W)
    have A2 := hid (at_nil l W)
    unfold errV
    go_enter Tryz.func62, Tryz.ntmps62
    go_wp2_with fail
    refine IT.out.mono ?_
    rintro e w1 ⟨rfl, rfl⟩
    go_wp2_with fail
    refine A0.out.mono ?_
    rintro e w2 ⟨rfl, rfl⟩
    go_wp2_with fail
    refine A1.out.mono ?_
    rintro e w3 ⟨rfl, rfl⟩
    go_wp2_with fail
    refine A2.out.mono ?_
    rintro e w4 ⟨rfl, rfl⟩
    go_wp2_with fail
    go_ret
    exact ⟨_, rfl, .inl ⟨rfl, rfl⟩, Below.refl _ _⟩
  | [k], _, hn =>
    have hk := hn k (by simp)
    have A0 := hid (at_chain Ad p 0 _ _ W (sent_chn Ad W.heap.size k W hk))
    clear hn hk
    unfold errV
    go_enter Tryz.func62, Tryz.ntmps62
    go_wp2_with fail
    refine IT.out.mono ?_
    rintro e w1 ⟨rfl, rfl⟩
    go_wp2_with fail
    refine A0.out.mono ?_
    rintro e w2 ⟨v2, rfl, h2, b2⟩
    have A1 := hid (at_chain Ad (dig i) _ _ _ w2 h2)
    have B2 := hid b2
    clear h2 b2 A0
    go_wp2_with fail
    refine A1.out.mono ?_
    rintro e w3 ⟨v3, rfl, h3, b3⟩
    have A2 := hid (at_chain Ad l _ _ _ w3 h3)
    have B3 := hid (B2.out.trans (b3.mono B2.out.size))
    clear h3 b3 A1 B2
    go_wp2_with fail
    refine A2.out.mono ?_
    rintro e w4 ⟨v4, rfl, h4, b4⟩
    have H4 := hid h4
    have B4 := hid (B3.out.trans (b4.mono B3.out.size))
    clear h4 b4 A2 B3
    go_wp2_with fail
    go_ret
    exact ⟨_, rfl, .inr ⟨_, rfl, H4.out⟩, B4.out⟩
  | _ :: _ :: _, h, _ => simp at h
set_option maxHeartbeats 800000 in
theorem toomany_any (Ad : Nat → Addr) (W : World) (hE : Env8 W Ad) (l : ByteArray) (n m : Int) :
    Calls Tryz.prog 61 #[.string l, .int .i64 n, .int .i64 m] W fun e W' => ∃ v', e = .returned v' ∧ One Ad W'.heap.size W' v' (if m < n then [([l], 4)] else []) ∧ Below W.heap.size W W' := by
  have e4 : W.cell? ⟨6, 0, none⟩ = some (.iface 262 (.pointer (some (Ad 4)))) := hE.cell 4 (by decide) (by decide)
  clear hE
  by_cases h : m < n
  · have A0 := hid (at_chain Ad l 0 _ _ W (sent_chn Ad W.heap.size 4 W (by decide)))
    rw [if_pos h]
    go_enter Tryz.func61, Tryz.ntmps61
    go_wp2_with fail
    refine A0.out.mono ?_
    rintro e w2 ⟨v2, rfl, h2, b2⟩
    have H2 := hid h2
    have B2 := hid b2
    clear h2 b2
    go_wp2_with fail
    go_ret
    exact ⟨_, rfl, .inr ⟨_, rfl, ⟨H2.out.1, H2.out.2.1, H2.out.2.2.1, by simp⟩⟩, B2.out⟩
  · rw [if_neg h]
    go_enter Tryz.func61, Tryz.ntmps61
    go_wp2_with fail
    go_ret
    exact ⟨_, rfl, .inl ⟨rfl, rfl⟩, Below.refl _ _⟩
/-- A component. -/
structure Cmp where
  s : ByteArray
  wd : Int
  rb : Bool
  d0 : Int
  d1 : Int
  d2 : Int
  d3 : Int
def Cmp.val (c : Cmp) : Value := .agg #[.string c.s, .int .i64 c.wd, .bool c.rb, .int .i64 c.d0, .int .i64 c.d1, .int .i64 c.d2, .int .i64 c.d3]
def wOk (c : Cmp) : Bool := decide (1 ≤ c.wd) && decide (c.wd ≤ 4)
theorem wOk_no (c : Cmp) (h : ¬ (1 ≤ c.wd ∧ c.wd ≤ 4)) : wOk c = false := by
  unfold wOk
  by_cases h1 : 1 ≤ c.wd
  · have h2 : ¬ c.wd ≤ 4 := fun h2 => h ⟨h1, h2⟩
    simp [h2]
  · simp [h1]
theorem wOk_yes (c : Cmp) (h : 1 ≤ c.wd ∧ c.wd ≤ 4) : wOk c = true := by
  unfold wOk
  simp [h.1, h.2]
set_option maxHeartbeats 800000 in
theorem fits_any (W : World) (c : Cmp) : Calls Tryz.prog 100 #[c.val] W fun e W' => e = .returned (.bool (wOk c)) ∧ Below W.heap.size W W' := by
  by_cases h : 1 ≤ c.wd ∧ c.wd ≤ 4
  · rw [wOk_yes c h]
    obtain ⟨s, wd, rb, d0, d1, d2, d3⟩ := c
    obtain ⟨h1, h2⟩ := h
    simp only [] at h1 h2
    unfold Cmp.val
    go_enter Tryz.func100, Tryz.ntmps100
    go_wp2_with fail
    go_ret
    exact ⟨rfl, (Below.refl _ _).alloc (Nat.le_refl _) _⟩
  · rw [wOk_no c h]
    obtain ⟨s, wd, rb, d0, d1, d2, d3⟩ := c
    simp only [] at h
    unfold Cmp.val
    by_cases h1 : 1 ≤ wd
    · have h2 : ¬ wd ≤ 4 := fun h2 => h ⟨h1, h2⟩
      clear h
      go_enter Tryz.func100, Tryz.ntmps100
      go_wp2_with fail
      go_ret
      exact ⟨rfl, (Below.refl _ _).alloc (Nat.le_refl _) _⟩
    · clear h
      go_enter Tryz.func100, Tryz.ntmps100
      go_wp2_with fail
      go_ret
      exact ⟨rfl, (Below.refl _ _).alloc (Nat.le_refl _) _⟩
def wErr (c : Cmp) : List Nat := if wOk c then [] else [1]
set_option maxHeartbeats 800000 in
theorem width_any (Ad : Nat → Addr) (W : World) (hE : Env8 W Ad) (c : Cmp) : Calls Tryz.prog 64 #[c.val] W fun e W' => e = .returned (errV Ad (wErr c)) ∧ Below W.heap.size W W' := by
  have HE := hid hE
  clear hE
  have FC := hid (fun W' => fits_any W' c)
  cases hw : wOk c with
  | true =>
    rw [show errV Ad (wErr c) = .nilIface by simp [wErr, hw, errV]]
    rw [hw] at FC
    clear hw
    obtain ⟨s, wd, rb, d0, d1, d2, d3⟩ := c
    unfold Cmp.val at FC ⊢
    have BA : Hid (Below W.heap.size W (W.alloc (.cells #[.string s, .int .i64 wd, .bool rb, .int .i64 d0, .int .i64 d1, .int .i64 d2, .int .i64 d3] 96))) := (Below.refl _ _).alloc (Nat.le_refl _) _
    go_enter Tryz.func64, Tryz.ntmps64
    go_wp2_with fail
    refine (FC.out _).mono ?_
    rintro e w1 ⟨rfl, hb1⟩
    have B1 := hid (BA.out.trans (hb1.mono BA.out.size))
    clear hb1 FC
    go_wp2_with fail
    go_ret
    exact ⟨rfl, B1.out⟩
  | false =>
    rw [show errV Ad (wErr c) = .iface 262 (.pointer (some (Ad 1))) by simp [wErr, hw, errV]]
    rw [hw] at FC
    clear hw
    obtain ⟨s, wd, rb, d0, d1, d2, d3⟩ := c
    unfold Cmp.val at FC ⊢
    have BA : Hid (Below W.heap.size W (W.alloc (.cells #[.string s, .int .i64 wd, .bool rb, .int .i64 d0, .int .i64 d1, .int .i64 d2, .int .i64 d3] 96))) := (Below.refl _ _).alloc (Nat.le_refl _) _
    go_enter Tryz.func64, Tryz.ntmps64
    go_wp2_with fail
    refine (FC.out _).mono ?_
    rintro e w1 ⟨rfl, hb1⟩
    have B1 := hid (BA.out.trans (hb1.mono BA.out.size))
    have e1 : w1.cell? ⟨1, 0, none⟩ = some (.iface 262 (.pointer (some (Ad 1)))) := (HE.out.later B1.out).cell 1 (by decide) (by decide)
    clear hb1 FC
    go_wp2_with fail
    go_ret
    exact ⟨rfl, B1.out⟩
set_option maxHeartbeats 800000 in
theorem nz_any (n : Int) (W : World) : Calls Tryz.prog 102 #[.int .i64 n] W fun e W' => e = .returned (.bool (n != 0)) ∧ W' = W := by
  go_enter Tryz.func102, Tryz.ntmps102
  go_wp2_with fail
  go_ret
  exact ⟨rfl, rfl⟩
/-- Numbers in memory. -/
def IntRow (W : World) (v : Value) (ds : List Int) : Prop := ∃ a c, v = .slice a ds.length c ∧ (ds = [] ∨ ∃ b o, a = some ⟨b, o, none⟩ ∧ ∀ (j : Nat) x, ds[j]? = some x → W.cell? ⟨b, o + j, none⟩ = some (.int .i64 x))
def nzB (n : Int) : Bool := n != 0
set_option maxHeartbeats 800000 in
set_option maxRecDepth 100000 in
theorem idx_any (W : World) (v : Value) (ds : List Int) (h : IntRow W v ds) (hl : ds.length ≤ 1000) :
    Calls Tryz.prog 120 #[v, .func (.func 102) #[] #[]] W fun e W' => (∃ i : Int, e = .returned (.int .i64 i) ∧ decide (0 ≤ i) = ds.any nzB) ∧ W' = W := by
  obtain ⟨a, c, rfl, h1⟩ := h
  have H1 := hid h1
  have hli : (ds.length : Int) ≤ 1000 := by omega
  clear h1
  go_enter Tryz.func120, Tryz.ntmps120
  go_wp2_with fail
  go_loop [5, 8] (fun _ i => ∃ k : Nat, k ≤ ds.length ∧ i = .int .i64 (k : Int) ∧ Hid ((ds.take k).any nzB = false)) (fun _ i => ds.length - (intOf i).toNat)
  case atStart => exact ⟨0, Nat.zero_le _, rfl, rfl⟩
  case round =>
    obtain ⟨k, hk, rfl, HN⟩ := hrel
    by_cases hlt : k < ds.length
    · have hki : (k : Int) < (ds.length : Int) := by omega
      obtain ⟨x, hx⟩ := at_lt ds k hlt
      obtain ⟨b, o, rfl, hc⟩ : ∃ b o, a = some ⟨b, o, none⟩ ∧ ∀ (j : Nat) x, ds[j]? = some x → W.cell? ⟨b, o + j, none⟩ = some (.int .i64 x) := by
        rcases H1.out with h | h
        · rw [h] at hlt; simp at hlt
        · exact h
      have c0 := hc k x hx
      have HX := hid hx
      have TN := hid (take_next hx)
      have NZ := hid (nz_any x W)
      clear hc hx
      go_wp2_with fail
      refine NZ.out.mono ?_
      rintro e w1 ⟨rfl, rfl⟩
      by_cases hz : x = 0
      · have q : (x != 0) = false := by simp [hz]
        have R : Hid ((ds.take (k + 1)).any nzB = false) := by show _ = _; rw [TN.out, List.any_append, HN.out]; simp [nzB, hz]
        rw [q]
        clear q hz NZ
        go_wp2_with fail
        go_round
        case rel => exact ⟨k + 1, by omega, by go_num, R.out⟩
        case measure => simp [intOf]; omega
      · have q : (x != 0) = true := by simp [hz]
        have R : Hid (ds.any nzB = true) := List.any_eq_true.2 ⟨x, List.mem_of_getElem? HX.out, by simp [nzB, hz]⟩
        rw [q]
        clear q hz NZ
        go_wp2_with fail
        go_ret
        exact ⟨⟨(k : Int), rfl, by rw [R.out]; simp⟩, rfl⟩
    · have hki : ¬ ((k : Int) < (ds.length : Int)) := by omega
      have R : Hid (ds.any nzB = false) := by show _ = _; rw [← HN.out, List.take_of_length_le (by omega)]
      go_wp2_with fail
      go_ret
      exact ⟨⟨-1, rfl, by rw [R.out]; rfl⟩, rfl⟩
set_option maxHeartbeats 800000 in
theorem contains_any (W : World) (v : Value) (ds : List Int) (h : IntRow W v ds) (hl : ds.length ≤ 1000) :
    Calls Tryz.prog 101 #[v, .func (.func 102) #[] #[]] W fun e W' => e = .returned (.bool (ds.any nzB)) ∧ W' = W := by
  have IC := hid (idx_any W v ds h hl)
  obtain ⟨a, c, rfl, -⟩ := h
  go_enter Tryz.func101, Tryz.ntmps101
  go_wp2_with fail
  refine IC.out.mono ?_
  rintro e w1 ⟨⟨i, rfl, hi⟩, rfl⟩
  have HI := hid hi
  clear hi IC
  go_wp2_with fail
  go_ret
  exact ⟨by rw [← HI.out]; rfl, rfl⟩
/-- Whether a default is nothing behind its width. -/
def behind (c : Cmp) : List Int := [c.d0, c.d1, c.d2, c.d3].drop c.wd.toNat
def dErr (c : Cmp) : List Nat := if wOk c && (behind c).any nzB then [1] else []
set_option maxHeartbeats 1600000 in
theorem default_any (Ad : Nat → Addr) (W : World) (hE : Env8 W Ad) (c : Cmp) : Calls Tryz.prog 65 #[c.val] W fun e W' => e = .returned (errV Ad (dErr c)) ∧ Below W.heap.size W W' := by
  have HE := hid hE
  clear hE
  have FC := hid (fun W' => fits_any W' c)
  by_cases hw : 1 ≤ c.wd ∧ c.wd ≤ 4
  · have hwt := wOk_yes c hw
    rw [hwt] at FC
    have BA : Hid (Below W.heap.size W (W.alloc (.cells #[.string c.s, .int .i64 c.wd, .bool c.rb, .int .i64 c.d0, .int .i64 c.d1, .int .i64 c.d2, .int .i64 c.d3] 96))) := (Below.refl _ _).alloc (Nat.le_refl _) _
    have CC : Hid (∀ (W' : World) (v : Value), Below (W.heap.size + 1) (W.alloc (.cells #[.string c.s, .int .i64 c.wd, .bool c.rb, .int .i64 c.d0, .int .i64 c.d1, .int .i64 c.d2, .int .i64 c.d3] 96)) W' → (∃ a cc, v = .slice a (behind c).length cc ∧ ((behind c) = [] ∨ a = some ⟨W.heap.size, 3 + c.wd.toNat, none⟩)) →
        Calls Tryz.prog 101 #[v, .func (.func 102) #[] #[]] W' fun e W'' => e = .returned (.bool ((behind c).any nzB)) ∧ W'' = W') := by
      intro W' v hb ⟨a, cc, hv, ha⟩
      refine contains_any W' v (behind c) ⟨a, cc, hv, ha.imp id fun ha => ⟨W.heap.size, 3 + c.wd.toNat, ha, fun j x hx => ?_⟩⟩ (by simp [behind]; omega)
      unfold behind at hx
      rw [List.getElem?_drop] at hx
      rw [hb.cell (p := ⟨W.heap.size, 3 + c.wd.toNat + j, none⟩) (by simp), cell_of_row _ _ _ _ 96 (0, 0) (heap_alloc_new W _)]
      rw [show 3 + c.wd.toNat + j = 3 + (c.wd.toNat + j) by omega]
      generalize c.wd.toNat + j = m at *
      match m, hx with
      | 0, hx => simpa using hx
      | 1, hx => simpa using hx
      | 2, hx => simpa using hx
      | 3, hx => simpa using hx
      | m + 4, hx => simp at hx
    have hcase : c.wd = 1 ∨ c.wd = 2 ∨ c.wd = 3 ∨ c.wd = 4 := by omega
    cases ha : (behind c).any nzB with
    | false =>
      rw [show errV Ad (dErr c) = .nilIface by simp [dErr, hwt, ha, errV]]
      rw [ha] at CC
      clear hwt ha hw
      obtain ⟨s, wd, rb, d0, d1, d2, d3⟩ := c
      simp only [] at hcase
      unfold Cmp.val at FC ⊢
      rcases hcase with rfl | rfl | rfl | rfl
      all_goals
        go_enter Tryz.func65, Tryz.ntmps65
        go_wp2_with fail
        refine (FC.out _).mono ?_
        rintro e w1 ⟨rfl, hb1⟩
        have B1 := hid (BA.out.trans (hb1.mono BA.out.size))
        have hc1 : w1.cell? ⟨W.heap.size, 1, none⟩ = _ := (hb1.cell (p := ⟨W.heap.size, 1, none⟩) (by simp)).trans (by rw [cell_of_row _ _ _ _ 96 (0, 0) (heap_alloc_new W _)])
        have CD := hid (CC.out w1)
        have HB1 := hid hb1
        clear hb1 FC CC
        go_wp2_with fail
        refine (CD.out _ (by simpa using HB1.out) ⟨_, _, rfl, by first | exact .inr rfl | exact .inl rfl⟩).mono ?_
        rintro e w2 ⟨rfl, rfl⟩
        clear CD
        go_wp2_with fail
        go_ret
        exact ⟨rfl, B1.out⟩
    | true =>
      rw [show errV Ad (dErr c) = .iface 262 (.pointer (some (Ad 1))) by simp [dErr, hwt, ha, errV]]
      rw [ha] at CC
      clear hwt ha hw
      obtain ⟨s, wd, rb, d0, d1, d2, d3⟩ := c
      simp only [] at hcase
      unfold Cmp.val at FC ⊢
      rcases hcase with rfl | rfl | rfl | rfl
      all_goals
        go_enter Tryz.func65, Tryz.ntmps65
        go_wp2_with fail
        refine (FC.out _).mono ?_
        rintro e w1 ⟨rfl, hb1⟩
        have B1 := hid (BA.out.trans (hb1.mono BA.out.size))
        have hc1 : w1.cell? ⟨W.heap.size, 1, none⟩ = _ := (hb1.cell (p := ⟨W.heap.size, 1, none⟩) (by simp)).trans (by rw [cell_of_row _ _ _ _ 96 (0, 0) (heap_alloc_new W _)])
        have e1 : w1.cell? ⟨1, 0, none⟩ = some (.iface 262 (.pointer (some (Ad 1)))) := (HE.out.later B1.out).cell 1 (by decide) (by decide)
        have CD := hid (CC.out w1)
        have HB1 := hid hb1
        clear hb1 FC CC
        go_wp2_with fail
        refine (CD.out _ (by simpa using HB1.out) ⟨_, _, rfl, by first | exact .inr rfl | exact .inl rfl⟩).mono ?_
        rintro e w2 ⟨rfl, rfl⟩
        clear CD
        go_wp2_with fail
        go_ret
        exact ⟨rfl, B1.out⟩
  · have hwf := wOk_no c hw
    rw [hwf] at FC
    rw [show errV Ad (dErr c) = .nilIface by simp [dErr, hwf, errV]]
    obtain ⟨s, wd, rb, d0, d1, d2, d3⟩ := c
    unfold Cmp.val at FC ⊢
    have BA : Hid (Below W.heap.size W (W.alloc (.cells #[.string s, .int .i64 wd, .bool rb, .int .i64 d0, .int .i64 d1, .int .i64 d2, .int .i64 d3] 96))) := (Below.refl _ _).alloc (Nat.le_refl _) _
    clear hw hwf
    go_enter Tryz.func65, Tryz.ntmps65
    go_wp2_with fail
    refine (FC.out _).mono ?_
    rintro e w1 ⟨rfl, hb1⟩
    have B1 := hid (BA.out.trans (hb1.mono BA.out.size))
    clear hb1 FC
    go_wp2_with fail
    go_ret
    exact ⟨rfl, B1.out⟩
end Go.Proofs.YtoafpfheopgdkaaGreatDoor.Sc
