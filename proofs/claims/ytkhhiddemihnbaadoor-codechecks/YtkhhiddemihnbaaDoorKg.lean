/- Contracts of blame: Has. -/
import Derived.Test.YtkhhiddemihnbaaDoorKf
namespace Go.Proofs.YtkhhiddemihnbaaDoor
open Go.RowKit Go.Shelf
attribute [local go_sem] Oper.semAt_some
theorem Turn.frozen {P : Obj → Prop} {B : Nat} {w w' : World} (h : Turn P B w w') {p : Addr} {x : Value} (hc : w.cell? p = some x) (hp : p.block < B) : w'.frozen? p = w.frozen? p := by
  have hlt := World.block_lt_of_cell? w p hc
  have hb := h.block p.block _ (Array.getElem?_eq_getElem hlt) (.inl hp)
  exact World.frozen?_of_block (w := w) (hb.trans (Array.getElem?_eq_getElem hlt).symm)
theorem new_free (w : World) (x : Value) (e : TypeId) : (w.alloc (.cells #[x] e)).frozen? ⟨w.heap.size, 0, none⟩ = false := by
  have h := heap_alloc_new w (.cells #[x] e)
  unfold World.frozen?; rw [show (⟨w.heap.size, 0, none⟩ : Addr).block = w.heap.size from rfl, h]; rfl
/-- How Has stands between two leaves. -/
def HasI (At : Nat → Addr) (n₀ : Nat) (w : World) (r t : Nat) (a : Addr) (s : List Lf) (W : World) : Prop :=
  ((∀ x ∈ s, At x.k ≠ a) ∧ W.cell? ⟨r, 0, none⟩ = some (.bool false) ∧ W.frozen? ⟨r, 0, none⟩ = false ∧ W.cell? ⟨t, 0, none⟩ = some (.iface 163 (.pointer (some a)))) ∧ Below n₀ w W
def HasX (At : Nat → Addr) (n₀ : Nat) (w : World) (r : Nat) (a : Addr) (c : Code) (s : List Lf) (W : World) : Prop :=
  (c = .ret ∧ (∃ x ∈ s, At x.k = a) ∧ W.cell? ⟨r, 0, none⟩ = some (.bool true)) ∧ Below n₀ w W
theorem HasI.turn {At : Nat → Addr} {n₀ : Nat} {w : World} {r t B : Nat} {a : Addr} {P : Obj → Prop} (hr : r < B) (ht : t < B) (hw : n₀ ≤ B) (h0 : n₀ ≤ w.heap.size) (s : List Lf) (A A' : World) (h : HasI At n₀ w r t a s A) (h1 : Turn P B A A') : HasI At n₀ w r t a s A' := by
  obtain ⟨⟨h2, h3, h4, h5⟩, h6⟩ := h
  exact ⟨⟨h2, h1.cell h3 hr, (h1.frozen h3 hr).trans h4, h1.cell h5 ht⟩, h6.trans ((h1.mono (fun _ h => h) hw).below (Nat.le_trans h0 h6.size))⟩
theorem HasX.turn {At : Nat → Addr} {n₀ : Nat} {w : World} {r B : Nat} {a : Addr} {P : Obj → Prop} (hr : r < B) (hw : n₀ ≤ B) (h0 : n₀ ≤ w.heap.size) (c : Code) (s : List Lf) (A A' : World) (h : HasX At n₀ w r a c s A) (h1 : Turn P B A A') : HasX At n₀ w r a c s A' := by
  obtain ⟨⟨h2, h3, h4⟩, h6⟩ := h
  exact ⟨⟨h2, h3, h1.cell h4 hr⟩, h6.trans ((h1.mono (fun _ h => h) hw).below (Nat.le_trans h0 h6.size))⟩
theorem odd_kept (o : Obj) (h : Odd o) : ¬ isKept o := by
  rintro ⟨cur, rfl | rfl⟩ <;> cases h
set_option maxHeartbeats 2000000 in
set_option maxRecDepth 100000 in
theorem has_gen (Ad At : Nat → Addr) (v : Value) (ls : List (List ByteArray × Nat)) (d : Nat) (w : World) (hE : Env w Ad) (hAt : ∀ j, 1 ≤ j → j ≤ 18 → SenK w (At j)) (hT : Tr At w.heap.size w d v ls) (hd : d ≤ 1000) (k : Nat) (hk : k < 18) :
    Calls Tryd.prog 55 #[v, .int .i64 ((k : Int) + 1)] w fun e w' => e = .returned (.bool (decide (∃ p ∈ ls, At p.2 = Ad (k + 1)))) ∧ Below w.heap.size w w' := by
  have HAT := hid hAt
  clear hAt
  have HV := hid hT.isIface
  have HT := hid hT
  have HE := hid hE
  have b1 : Below w.heap.size w (w.alloc (.cells #[.bool false] 4)) := (Below.refl _ _).alloc (Nat.le_refl _) _
  have E1 := hid (hE.later b1)
  have BB := hid b1
  clear hT hE b1
  refine callsIn_wide (n := 5) |>.1 ?_
  refine callsIn_of_wp_marks Tryd.func55 rfl trivial ?_ rfl
  simp only [Tryd.ntmps55, List.size_toArray, List.length_cons, List.length_nil, Nat.reduceAdd, Nat.reduceSub, Array.replicate_succ, Array.replicate_zero, List.push_toArray, List.append_toArray, List.nil_append, List.cons_append]
  gi_wp2_with fail
  refine ⟨trivial, ?_⟩
  refine (callsIn_wide.2 (of_some _ Ad E1.out k hk)).mono ?_
  rintro e w2 ⟨rfl, hb2⟩
  have B2 := hid (show Below (w.heap.size + 1) (w.alloc (.cells #[.bool false] 4)) w2 by simpa using hb2)
  clear hb2
  gi_wp2_with fail
  refine ⟨trivial, ?_⟩
  refine (callsIn_wide.2 (parts_any v HV.out _)).mono ?_
  rintro e w' ⟨rfl, rfl⟩
  gi_wp2_with fail
  obtain ⟨wl, hwl⟩ : ∃ wl, wl = (w2.alloc (.cells #[.iface 163 (.pointer (some (Ad (k + 1))))] 42)).alloc (.cells #[v] 42) := ⟨_, rfl⟩
  rw [← hwl]
  have hs2 : w.heap.size + 1 ≤ w2.heap.size := by have := B2.out.size; simpa using this
  have hsz : wl.heap.size = w2.heap.size + 1 + 1 := by rw [hwl]; simp
  have hl2 : Below w2.heap.size w2 wl := by rw [hwl]; exact ((Below.refl _ _).alloc (Nat.le_refl _) _).alloc (by simp) _
  have hb0 : Below w.heap.size w wl := (BB.out.trans (B2.out.mono (by omega))).trans (hl2.mono (by omega))
  have c0 : wl.cell? ⟨w.heap.size, 0, none⟩ = some (.bool false) := (hl2.cell (p := ⟨w.heap.size, 0, none⟩) (by show w.heap.size < _; omega)).trans ((B2.out.cell (p := ⟨w.heap.size, 0, none⟩) (by show w.heap.size < _; omega)).trans (new_cell w _ _))
  have f0 : wl.frozen? ⟨w.heap.size, 0, none⟩ = false := (hl2.frozen (p := ⟨w.heap.size, 0, none⟩) (by show w.heap.size < _; omega)).trans ((B2.out.frozen (p := ⟨w.heap.size, 0, none⟩) (by show w.heap.size < _; omega)).trans (new_free w _ _))
  have c1 : wl.cell? ⟨w2.heap.size, 0, none⟩ = some (.iface 163 (.pointer (some (Ad (k + 1))))) := by
    rw [hwl]
    exact (((Below.refl (w2.heap.size + 1) _).alloc (by simp) _).cell (p := ⟨w2.heap.size, 0, none⟩) (by show w2.heap.size < _; omega)).trans (new_cell w2 _ _)
  have c2 : wl.cell? ⟨w2.heap.size + 1, 0, none⟩ = some v := by
    rw [hwl]
    have := new_cell (w2.alloc (.cells #[.iface 163 (.pointer (some (Ad (k + 1))))] 42)) v 42
    rw [World.size_alloc] at this
    exact this
  refine range_law (P := Tryd.prog) rfl (by decide) (gf := 50) (lb := #[.pointer (some ⟨w2.heap.size + 1, 0, none⟩)]) rfl trivial (enters_of Tryd.func50 (by kernel_rfl) rfl)
    (encs At) (fun _ => rfl) isRow isRow_cells (Handed wl.heap.size ls) (HasI At w.heap.size wl w.heap.size w2.heap.size (Ad (k + 1))) (HasX At w.heap.size wl w.heap.size (Ad (k + 1))) (Kp w.heap.size)
    (fun xs => xs.map Lf.pair = ls) (fun xs => xs.map Lf.pair <+: ls)
    ?hR (HasI.turn (by omega) (by omega) (by omega) (by omega)) (HasX.turn (by omega) (by omega) (by omega)) ⟨⟨by simp, c0, f0, c1⟩, Below.refl _ _⟩ w.heap.size ?hBi ?hBx ?hKt ?hKb
    (parts_seq At w.heap.size (w2.heap.size + 1) d w wl v ls _ _ HT.out hd hb0 (by omega) (by omega) c2)
    (fun x => { tmps := #[v, .int .i64 ((k : Int) + 1), undef, undef, .pointer (some ⟨w.heap.size, 0, none⟩), .pointer (some ⟨w2.heap.size, 0, none⟩), undef, .iface 163 (.pointer (some (At x.k))), .int .i64 ((k : Int) + 1), .iface 163 (.pointer (some (Ad (k + 1)))), .iface 163 (.pointer (some (Ad (k + 1)))), .bool false, v, .func (.func 50) #[] #[.pointer (some ⟨w2.heap.size + 1, 0, none⟩)], x.tv, .iface 163 (.pointer (some (At x.k))), undef, undef, undef], defers := [] }) ?assign ?body ?done ?stop
  case hR =>
    rintro s x A B ⟨h1, h2⟩ ht
    exact ⟨own_later h1 fun g cur _ hg => ht.block g _ hg (.inr fun h => by cases h), h2⟩
  case hBi => exact fun s A h => h.2
  case hBx => exact fun c s A h => h.2
  case hKt => exact fun h1 h2 => h1.trans h2
  case hKb => exact fun h => h.mono odd_kept (by omega)
  case assign =>
    intro l x W K hK
    simp only [encs]
    gi_wp2
    exact hK
  case body =>
    rintro l pre x W hl ⟨⟨hp, hc, hf, ht⟩, hB⟩ ⟨htr, hx1, hx2, -⟩
    have hEW := HE.out.later (hb0.trans hB)
    have C := hid (is_any (At x.k) (Ad (k + 1)) W ((HAT.out _ hx1 hx2).below (hb0.trans hB) (HAT.out _ hx1 hx2).lt) (hEW.sen _ (by omega) (by omega)))
    have hsW : w.heap.size < W.heap.size := World.block_lt_of_cell? W _ hc
    by_cases he : At x.k = Ad (k + 1)
    · rw [decide_eq_true he] at C
      have HQ := hid he
      clear he
      gi_wp2_with fail
      refine ⟨trivial, ?_⟩
      refine (CallsIn.inRound l (callsIn_wide.2 C.out)).mono ?_
      rintro e w' ⟨rfl, rfl⟩
      gi_wp2_with fail
      have cs : (W.setCell ⟨w.heap.size, 0, none⟩ (.bool true)).cell? ⟨w.heap.size, 0, none⟩ = some (.bool true) := World.cell?_setCell_same' _ _ _ (by rw [hc]; rfl)
      exact ⟨(KeepsOthers.setCell _ _ _).trans (KeepsOthers.alloc _ _), ⟨rfl, ⟨x, by simp, HQ.out⟩, (((Below.refl (w.heap.size + 1) _).alloc (by simp; omega) _).cell (p := ⟨w.heap.size, 0, none⟩) (by show w.heap.size < _; omega)).trans cs⟩, (hB.setCell (p := ⟨w.heap.size, 0, none⟩) (Nat.le_refl _) _).alloc (by simp; omega) _⟩
    · rw [decide_eq_false he] at C
      have bb : Below W.heap.size W (W.alloc (.cells #[.bool false] 4)) := (Below.refl _ _).alloc (Nat.le_refl _) _
      gi_wp2_with fail
      refine ⟨trivial, ?_⟩
      refine (CallsIn.inRound l (callsIn_wide.2 C.out)).mono ?_
      rintro e w' ⟨rfl, rfl⟩
      gi_wp2_with fail
      refine ⟨KeepsOthers.alloc _ _, Turn.alloc _ _ _ _, ⟨fun y hy => (List.mem_append.1 hy).elim (hp y) (fun e => by simp at e; subst e; exact he), (bb.cell (p := ⟨w.heap.size, 0, none⟩) hsW).trans hc, (bb.frozen (p := ⟨w.heap.size, 0, none⟩) hsW).trans hf, (bb.cell (p := ⟨w2.heap.size, 0, none⟩) (World.block_lt_of_cell? W _ ht)).trans ht⟩, hB.alloc (by omega) _⟩
  case done =>
    rintro D ys W hD hS ⟨⟨hne, hc, hf, _⟩, hB⟩ hK
    have hdec : decide (∃ p ∈ ls, At p.2 = Ad (k + 1)) = false := by
      simp only [decide_eq_false_iff_not]
      rw [← hS]
      rintro ⟨p, hp, e⟩
      obtain ⟨x, hx, rfl⟩ := List.mem_map.1 hp
      exact hne x hx e
    gi_wp2
    have hK' := (KeepsOthers.setCell W ⟨w.heap.size, 0, none⟩ (.bool false)).same D _ hK rfl
    refine ⟨by simp, .inl ⟨_, _, rfl, run_takeDeferred hK', ?_⟩⟩
    have hc5 := cell_kept (World.cell?_setCell_same' W ⟨w.heap.size, 0, none⟩ (.bool false) (by rw [hc]; rfl)) (grownBy_putObj' _ D (.deferred none)) (fun r e => by cases e; exact ⟨_, hK', rfl⟩)
    refine ⟨.bool false, ?_, by rw [hdec], (hb0.trans (hB.setCell (p := ⟨w.heap.size, 0, none⟩) (Nat.le_refl _) _)).trans ((Turn.put (P := Odd) _ (show w.heap.size ≤ D by omega) hK' rfl).below (Nat.le_trans hb0.size (Nat.le_trans hB.size (by simp))))⟩
    simp [results, Tryd.f55, go_sem, hc5]
  case stop =>
    rintro D c pre W hD hS ⟨⟨rfl, ⟨x, hx, he⟩, hc⟩, hB⟩ hK
    have hdec : decide (∃ p ∈ ls, At p.2 = Ad (k + 1)) = true := by
      simp only [decide_eq_true_eq]
      exact ⟨x.pair, hS.subset (List.mem_map.2 ⟨x, hx, rfl⟩), he⟩
    gi_wp2
    refine ⟨by simp, .inl ⟨_, _, rfl, run_takeDeferred hK, ?_⟩⟩
    have hc5 := cell_kept hc (grownBy_putObj' _ D (.deferred none)) (fun r e => by cases e; exact ⟨_, hK, rfl⟩)
    refine ⟨.bool true, ?_, by rw [hdec], (hb0.trans hB).trans ((Turn.put (P := Odd) _ (show w.heap.size ≤ D by omega) hK rfl).below (Nat.le_trans hb0.size hB.size))⟩
    simp [results, Tryd.f55, go_sem, hc5]
theorem Tr.range {Ad : Nat → Addr} {n₀ : Nat} {W : World} {d : Nat} {v : Value} {ls : List (List ByteArray × Nat)} (h : Tr Ad n₀ W d v ls) : ∀ p ∈ ls, 1 ≤ p.2 ∧ p.2 ≤ 18 := by
  induction h using Tr.ind with
  | empty d => simp
  | leaf d k hk => simpa using hk
  | blame d b s inner ls hbn c0 c1 hi ih =>
    intro p hp
    obtain ⟨q, hq, rfl⟩ := List.mem_map.1 hp
    exact ih q hq
  | many d b g c vs hbn hgn h0 hn cb cg one hi ih =>
    intro p hp
    obtain ⟨l, hl, hp⟩ := List.mem_flatten.1 hp
    obtain ⟨x, hx, rfl⟩ := List.mem_map.1 hl
    exact ih x hx p hp
theorem has_any (Ad : Nat → Addr) (v : Value) (ls : List (List ByteArray × Nat)) (d : Nat) (w : World) (hE : Env w Ad) (hT : Tr Ad w.heap.size w d v ls) (hd : d ≤ 1000) (k : Nat) (hk : k < 18) :
    Calls Tryd.prog 55 #[v, .int .i64 ((k : Int) + 1)] w fun e w' => e = .returned (.bool (decide (k + 1 ∈ ls.map Prod.snd))) ∧ Below w.heap.size w w' := by
  have h := has_gen Ad Ad v ls d w hE hE.sen hT hd k hk
  have e : decide (∃ p ∈ ls, Ad p.2 = Ad (k + 1)) = decide (k + 1 ∈ ls.map Prod.snd) := by
    apply decide_eq_decide.2
    constructor
    · rintro ⟨p, hp, hq⟩
      have hr := hT.range p hp
      exact List.mem_map.2 ⟨p, hp, hE.inj _ _ hr.1 hr.2 (by omega) (by omega) hq⟩
    · intro hm
      obtain ⟨p, hp, hq⟩ := List.mem_map.1 hm
      exact ⟨p, hp, by rw [hq]⟩
  rw [e] at h
  exact h
end Go.Proofs.YtkhhiddemihnbaaDoor
