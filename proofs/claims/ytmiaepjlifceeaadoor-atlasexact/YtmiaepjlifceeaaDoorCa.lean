/- The document's atlas in memory; its New, At. -/
import Derived.Test.YtmiaepjlifceeaaDoorBa
import Derived.Laws.OwnMore
namespace Go.Proofs.YtmiaepjlifceeaaDoor
open Go.RowKit Go.Shelf Go.Maps
/-- A row of sets that is owned. -/
def Msk (B : Nat) (W : World) (v : Value) (l : List Nat) : Prop := W.ownsRow B 33 1 v l.length (l.map gM)
theorem Msk.kept {B : Nat} {W W' : World} {v : Value} {l : List Nat} {T : Nat → Prop} (h : Msk B W v l) (hs : St T W W') (hd : ∀ k, v.ownBlock = some k → ¬ T k) : Msk B W' v l :=
  own_later h fun k _ hk hb => (hs.block k (Array.getElem?_eq_some_iff.1 hb).1 (hd k hk)).trans hb
theorem Msk.later {B : Nat} {W W' : World} {v : Value} {l : List Nat} (h : Msk B W v l) (hb : Below W.heap.size W W') : Msk B W' v l := own_later h fun _ _ _ hb' => blk_seen hb (Nat.le_refl _) hb'
theorem Msk.slice {B : Nat} {W : World} {v : Value} {l : List Nat} (h : Msk B W v l) : ∃ a c, v = .slice a l.length c := own_slice h
theorem Msk.lower {B B' : Nat} {W : World} {v : Value} {l : List Nat} (h : Msk B W v l) (hB : B' ≤ B) : Msk B' W v l :=
  ⟨h.1, h.2.elim .inl fun ⟨g, cap, cur, h1, h2, h3⟩ => .inr ⟨g, cap, cur, h1, by omega, h3⟩⟩
theorem Msk.cell {B : Nat} {W : World} {a : Option Addr} {c : Nat} {l : List Nat} (h : Msk B W (.slice a l.length c) l) {i m : Nat} (hi : l[i]? = some m) : ∃ g, a = some ⟨g, 0, none⟩ ∧ W.cell? ⟨g, i, none⟩ = some (.int .u32 (m : Int)) := by
  have hlt := (List.getElem?_eq_some_iff.1 hi).1
  obtain ⟨g, rfl, -, -⟩ := own_some h (by omega)
  refine ⟨g, rfl, ?_⟩
  rw [World.ownsRow.cellAt h i (by omega), List.getElem?_map, hi]
  rfl
theorem msk_one (W : World) (m : Nat) : Msk 0 (W.alloc (.cells #[.int .u32 (m : Int)] 33)) (.slice (some ⟨W.heap.size, 0, none⟩) 1 1) [m] :=
  ⟨rfl, .inr ⟨W.heap.size, 1, #[.int .u32 (m : Int)], rfl, Nat.zero_le _, heap_alloc_new W _, Nat.le_refl _, by unfold maxLen; omega, rfl, rfl⟩⟩
theorem msk_none (W : World) : Msk W.heap.size (W.alloc (.cells #[] 33)) (.slice (some ⟨W.heap.size, 0, none⟩) 0 0) [] :=
  World.ownsRow_lit (base := W.heap.size) (e := 33) (size := 1) W #[] 0 (Nat.le_refl _) (Nat.zero_le _) rfl
theorem run_msk {B N : Nat} {wc : World} {v sv : Value} {xs ns : List Nat} (hown : Msk N wc v xs) (hsrc : Msk B wc sv ns) (hl : xs.length + ns.length ≤ 200000) (hN : N ≤ wc.heap.size) (ty : TypeId) :
    ∃ v' w', (Builtin.append_ #[51, 51] ty #[v, sv]).run Tryd.prog wc = .ok v' w' ∧ Msk N w' v' (xs ++ ns) ∧ wc.grownBy w' v.ownBlock := by
  obtain ⟨i0, hi, hz0, hz1, hz2⟩ := info_parts infoInt33
  rcases hsrc.2 with ⟨h1, h2⟩ | ⟨g, cap, cur, h1, h2, h3, h4, h5, h6, h7⟩
  · have hn : ns = [] := List.eq_nil_of_length_eq_zero h2
    subst hn
    rw [h1]
    refine ⟨v, wc, run_append_owned_none wc N 51 ty 33 i0 1 Tryd.underlying51 hi v xs.length (xs.map gM) hown, by rw [List.append_nil]; exact hown, ⟨rfl, rfl, rfl, Nat.le_refl _, fun _ _ _ => rfl⟩⟩
  · rw [h1]
    have hc := hsrc
    rw [h1] at hc
    obtain ⟨v', w', hr, h8, h9, -, -⟩ := run_append_own_at (P := Tryd.prog) wc N 51 ty 33 i0 (.int .u32 0) 1 4 Tryd.underlying51 hi hz0 hz1 hz2 rfl (by decide) v xs.length (xs.map gM) hown ⟨g, 0, none⟩ ns.length cap (ns.map gM) (by simp) (fun j u hu => by
      rw [add_at]
      have hj : j < ns.length * 1 := by have := (List.getElem?_eq_some_iff.1 hu).1; simpa using this
      rw [World.ownsRow.cellAt hc j hj]; exact hu) (by intro u hu; obtain ⟨x, _, rfl⟩ := List.mem_map.1 hu; rfl) (by unfold maxLen; omega) (by omega) hN
    refine ⟨v', w', hr, ?_, h9⟩
    show World.ownsRow _ _ _ _ _ _ _
    rw [List.map_append, List.length_append]
    exact h8
theorem wpList_msk {ops : Array Oper} {rest : List Oper} {o : Oper} {a : Act} {Q : Exit → Act → World → Prop} (hgd : o.guard = none) (s x : Operand)
    (ho : o.op = .call { callee := .builtin .append, args := #[s, x], argTypes := #[51, 51] }) {B : Nat} {w2 wc : World} {v sv : Value} {xs ns : List Nat} (hb : Below w2.heap.size w2 wc) (hown : Msk w2.heap.size wc v xs) (hsrc : Msk B wc sv ns)
    (hl : xs.length + ns.length ≤ 200000) (hs : a.eval s = v) (hx : a.eval x = sv)
    (h : ∀ v' w4, Hid (Msk w2.heap.size w4 v' (xs ++ ns)) → Hid (Below w2.heap.size w2 w4) → wpList Tryd.prog ops Q rest (a.put o.dst v') w4) :
    wpList Tryd.prog ops Q (o :: rest) a wc := by
  refine wpList_plain hgd fun K hK => ?_
  obtain ⟨v', w', hr, h2, h3⟩ := run_msk hown hsrc hl hb.size o.type
  unfold Oper.wp
  simp [execOp, ho, resolve, invoke, builtin, hs, hx, hr, Result.andThen]
  exact hK _ _ (h v' w' h2 (hb.grown h3 hb.size fun k hk => (World.ownsRow.lt hown k hk).1))
/-- The blocks of the document's atlas. -/
def Fu (ub : Nat) (lv : Value) (k : Nat) : Prop := k = ub ∨ lv.ownBlock = some k
structure Rc (B : Nat) (W : World) (ub : Nat) (lv : Value) (s : AS) : Prop where
  box : W.heap[ub]? = some (.cells #[.int .i64 (s.n : Int), lv] 53 (0, 0))
  row : Msk B W lv s.l
  low : B ≤ ub
  ok : s.ok
section
variable {B : Nat} {W W' : World} {ub : Nat} {lv : Value} {s : AS}
theorem Rc.kept {T : Nat → Prop} (h : Rc B W ub lv s) (hs : St T W W') (hd : ∀ k, Fu ub lv k → ¬ T k) : Rc B W' ub lv s :=
  ⟨hs.at h.box (hd _ (.inl rfl)), h.row.kept hs fun _ hx => hd _ (.inr hx), h.low, h.ok⟩
theorem Rc.later (h : Rc B W ub lv s) (hb : Below W.heap.size W W') : Rc B W' ub lv s := h.kept (T := fun _ => False) (St.of_below hb) (fun _ _ q => q)
theorem Rc.lt (h : Rc B W ub lv s) (k : Nat) (hk : Fu ub lv k) : B ≤ k ∧ k < W.heap.size := by
  rcases hk with rfl | hk
  · exact ⟨h.low, (Array.getElem?_eq_some_iff.1 h.box).1⟩
  · exact World.ownsRow.lt h.row k hk
theorem Rc.base (h : Rc B W ub lv s) : B ≤ W.heap.size := by have := h.lt ub (.inl rfl); omega
theorem Rc.c0 (h : Rc B W ub lv s) : W.cell? ⟨ub, 0, none⟩ = some (.int .i64 (s.n : Int)) := cell_blk h.box rfl
theorem Rc.c1 (h : Rc B W ub lv s) : W.cell? ⟨ub, 1, none⟩ = some lv := cell_blk h.box rfl
/-- The document's atlas with other sets. -/
theorem Rc.renew {w2 w5 : World} {lv' : Value} {s' : AS} (h : Rc B w2 ub lv s) (hn : s'.n = s.n) (hok : s'.ok) (hb : Below w2.heap.size w2 w5) (ho : Msk w2.heap.size w5 lv' s'.l) :
    Rc B (w5.setCell ⟨ub, 1, none⟩ lv') ub lv' s' ∧ St (Fu ub lv) w2 (w5.setCell ⟨ub, 1, none⟩ lv') ∧ ∀ x, lv'.ownBlock = some x → w2.heap.size ≤ x := by
  have l1 := (h.lt ub (.inl rfl)).2
  have hx : ∀ x, lv'.ownBlock = some x → w2.heap.size ≤ x := fun x hx => (World.ownsRow.lt ho x hx).1
  have b5 := blk_seen hb (Nat.le_refl _) h.box
  refine ⟨⟨?_, ?_, h.low, hok⟩, ?_, hx⟩
  · rw [hn]; exact heap_setCell_same w5 ub 1 _ 53 lv' b5
  · refine (ho.lower h.base).kept (T := fun k => k = ub) (St.setCell (S := fun k => k = ub) (p := ⟨ub, 1, none⟩) _ rfl) fun x hx' e => ?_
    have := hx x hx'
    omega
  · exact (St.of_below (S := Fu ub lv) hb).trans (St.setCell (S := Fu ub lv) (p := ⟨ub, 1, none⟩) _ (.inl rfl)) fun _ _ q => q
end
/-- The document's atlas whose blocks are U. -/
def Rer (B : Nat) (W : World) (ub : Nat) (s : AS) (U : Nat → Prop) : Prop := ∃ lv, Rc B W ub lv s ∧ ∀ k, U k ↔ Fu ub lv k
/-- What a call that may make nodes leaves of it. -/
def Rgo (B ub : Nat) (s' : AS) (U : Nat → Prop) (W W' : World) : Prop := ∃ U', Rer B W' ub s' U' ∧ St U W W' ∧ ∀ x, U' x → U x ∨ W.heap.size ≤ x
section
variable {B : Nat} {W W' : World} {ub : Nat} {s : AS} {U : Nat → Prop}
theorem Rer.kept {T : Nat → Prop} (h : Rer B W ub s U) (hs : St T W W') (hd : ∀ k, U k → ¬ T k) : Rer B W' ub s U := by
  obtain ⟨lv, h1, h2⟩ := h
  exact ⟨lv, h1.kept hs fun k hk => hd k ((h2 k).2 hk), h2⟩
theorem Rer.later (h : Rer B W ub s U) (hb : Below W.heap.size W W') : Rer B W' ub s U := h.kept (T := fun _ => False) (St.of_below hb) fun _ _ q => q
theorem Rer.lt (h : Rer B W ub s U) (k : Nat) (hk : U k) : B ≤ k ∧ k < W.heap.size := by
  obtain ⟨lv, h1, h2⟩ := h
  exact h1.lt k ((h2 k).1 hk)
theorem Rer.ok (h : Rer B W ub s U) : s.ok := by obtain ⟨lv, h1, h2⟩ := h; exact h1.ok
theorem Rer.base (h : Rer B W ub s U) : B ≤ W.heap.size := by obtain ⟨lv, h1, h2⟩ := h; exact h1.base
theorem Rer.below (h : Rer B W ub s U) (hs : St U W W') : Below B W W' := hs.below (fun k hk => (h.lt k hk).1) h.base
theorem Rer.c0 (h : Rer B W ub s U) : W.cell? ⟨ub, 0, none⟩ = some (.int .i64 (s.n : Int)) := by obtain ⟨lv, h1, h2⟩ := h; exact h1.c0
theorem Rer.c1 (h : Rer B W ub s U) : ∃ a c, W.cell? ⟨ub, 1, none⟩ = some (.slice a s.l.length c) := by
  obtain ⟨lv, h1, h2⟩ := h
  obtain ⟨a, c, rfl⟩ := h1.row.slice
  exact ⟨a, c, h1.c1⟩
theorem Rer.cell (h : Rer B W ub s U) {a : Option Addr} {c : Nat} (hc : W.cell? ⟨ub, 1, none⟩ = some (.slice a s.l.length c)) {i m : Nat} (hi : s.l[i]? = some m) : ∃ g, a = some ⟨g, 0, none⟩ ∧ W.cell? ⟨g, i, none⟩ = some (.int .u32 (m : Int)) := by
  obtain ⟨lv, h1, h2⟩ := h
  have e := h1.c1
  rw [hc] at e
  obtain rfl := Option.some.inj e
  exact h1.row.cell hi
theorem Rer.u32 (h : Rer B W ub s U) {i m : Nat} (hi : s.l[i]? = some m) : m < 2 ^ s.n ∧ m < 4294967296 := by
  have := h.ok.lt m (List.mem_of_getElem? hi)
  have := h.ok.u16 (List.mem_of_getElem? hi)
  exact ⟨by assumption, by omega⟩
theorem Rgo.stay (h : Rer B W ub s U) (hb : Below W.heap.size W W') : Rgo B ub s U W W' := ⟨U, h.later hb, St.of_below hb, fun _ q => .inl q⟩
end
set_option maxHeartbeats 800000 in
theorem rnew_bad (W : World) (c : Int) (h : c < 0 ∨ 16 < c) : Calls Tryd.prog 10 #[.int .i64 c] W fun e W' => e = .returned (.pointer none) ∧ W' = W := by
  rcases h with h | h
  · go_enter Tryd.func10, Tryd.ntmps10
    go_wp2
    go_ret
    exact ⟨rfl, rfl⟩
  · have h0 : ¬ (c < 0) := by omega
    go_enter Tryd.func10, Tryd.ntmps10
    go_wp2
    go_ret
    exact ⟨rfl, rfl⟩
set_option maxHeartbeats 800000 in
theorem rnew_ok (W : World) (n : Nat) (hn : n ≤ 16) :
    Calls Tryd.prog 10 #[.int .i64 (n : Int)] W fun e W' => ∃ ub, e = .returned (.pointer (some ⟨ub, 0, none⟩)) ∧ (∃ U, Rer W.heap.size W' ub ⟨n, [0]⟩ U) ∧ Below W.heap.size W W' := by
  have h2 : ¬ ((n : Int) < 0) := by omega
  have h3 : ¬ (16 < (n : Int)) := by omega
  have K : Hid (Rer W.heap.size ((W.alloc (.cells #[.int .u32 0] 33)).alloc (.cells #[.int .i64 (n : Int), .slice (some ⟨W.heap.size, 0, none⟩) 1 1] 53)) (W.heap.size + 1) ⟨n, [0]⟩ (Fu (W.heap.size + 1) (.slice (some ⟨W.heap.size, 0, none⟩) 1 1)) ∧ Below W.heap.size W ((W.alloc (.cells #[.int .u32 0] 33)).alloc (.cells #[.int .i64 (n : Int), .slice (some ⟨W.heap.size, 0, none⟩) 1 1] 53))) := by
    refine ⟨⟨_, ⟨?_, ?_, by omega, ⟨hn, by simp, ?_⟩⟩, fun _ => Iff.rfl⟩, (bAl W _).alloc (by simp) _⟩
    · have := heap_alloc_new (W.alloc (.cells #[.int .u32 0] 33)) (.cells #[.int .i64 (n : Int), .slice (some ⟨W.heap.size, 0, none⟩) 1 1] 53)
      rw [World.size_alloc] at this
      exact this
    · have e : Msk W.heap.size (W.alloc (.cells #[.int .u32 0] 33)) (.slice (some ⟨W.heap.size, 0, none⟩) 1 1) [0] := ⟨rfl, .inr ⟨W.heap.size, 1, #[.int .u32 0], rfl, Nat.le_refl _, heap_alloc_new W _, Nat.le_refl _, by unfold maxLen; omega, rfl, rfl⟩⟩
      exact e.later (bAl _ _)
    · intro m hm
      simp at hm
      subst hm
      exact Nat.two_pow_pos n
  clear hn
  go_enter Tryd.func10, Tryd.ntmps10
  go_wp2
  go_ret
  exact ⟨_, rfl, ⟨_, K.out.1⟩, K.out.2⟩
theorem div_pow_zero {m n : Nat} (h : m < 2 ^ n) : (m : Int) / 2 ^ n = 0 := by
  have e : (m : Int) / 2 ^ n = ((m / 2 ^ n : Nat) : Int) := by simp
  rw [e, Nat.div_eq_of_lt h]; rfl
theorem div_pow_pos {m n : Nat} (h : ¬ m < 2 ^ n) : ¬ ((m : Int) / 2 ^ n = 0) := by
  have e : (m : Int) / 2 ^ n = ((m / 2 ^ n : Nat) : Int) := by simp
  have : 0 < m / 2 ^ n := Nat.div_pos (by omega) (Nat.two_pow_pos n)
  rw [e]; omega
section
variable {B : Nat} {W W' : World} {ub : Nat} {s : AS} {U : Nat → Prop}
set_option maxHeartbeats 800000 in
set_option maxRecDepth 100000 in
theorem rat_bad (h : Rer B W ub s U) (m : Nat) (hm : ¬ m < 2 ^ s.n) :
    Calls Tryd.prog 13 #[.pointer (some ⟨ub, 0, none⟩), .int .u32 (m : Int)] W fun e W' => e = .returned (.tuple #[.int .i64 0, .int .i64 1]) ∧ Below W.heap.size W W' := by
  have c0 := h.c0
  have hn := h.ok.n16
  have hni : (s.n : Int) ≤ 32 := by omega
  have hd := div_pow_pos hm
  clear h hm
  go_enter Tryd.func13, Tryd.ntmps13
  go_wp2_with fail
  go_ret2
  exact ⟨rfl, Below.refl _ _⟩
set_option maxHeartbeats 1600000 in
set_option maxRecDepth 100000 in
theorem rat_ok (h : Rer B W ub s U) (m : Nat) (hm : m < 2 ^ s.n) :
    Calls Tryd.prog 13 #[.pointer (some ⟨ub, 0, none⟩), .int .u32 (m : Int)] W fun e W' => e = .returned (.tuple #[.int .i64 (s.l.idxOf m : Int), .int .i64 0]) ∧ Rgo B ub (s.put m) U W W' := by
  have c0 := h.c0
  obtain ⟨la, lc, c1⟩ := h.c1
  have hn := h.ok.n16
  have hni : (s.n : Int) ≤ 32 := by omega
  have hd := div_pow_zero hm
  have hsm := h.ok.small
  have hsi : (s.l.length : Int) ≤ 65536 := by omega
  have H := hid h
  have HM := hid hm
  clear h hm
  go_enter Tryd.func13, Tryd.ntmps13
  go_wp2_with fail
  go_loopg [6] s.l.length (fun gh i wr => ∃ k : Nat, k ≤ s.l.length ∧ gh = s.l.length - k ∧ i = .int .i64 (k : Int) ∧ Hid (k ≤ s.l.idxOf m) ∧ wr = W)
  case atStart => exact ⟨0, Nat.zero_le _, rfl, rfl, Nat.zero_le _, rfl⟩
  case round =>
    obtain ⟨k, hk, rfl, rfl, HK, rfl⟩ := hrel
    by_cases hlt : k < s.l.length
    · have hki : (k : Int) < (s.l.length : Int) := by omega
      obtain ⟨a, ha⟩ := at_lt s.l k hlt
      obtain ⟨g, rfl, d0⟩ := H.out.cell c1 ha
      by_cases e : a = m
      · subst e
        have E := hid (idx_of H.out.ok.nd ha)
        have PE : Hid (s.put a = s) := by show s.put a = s; unfold AS.put add; rw [if_pos (List.mem_of_getElem? ha)]
        clear ha
        go_wp2_with fail
        go_ret2
        refine ⟨by rw [E.out]; rfl, ?_⟩
        rw [PE.out]
        exact Rgo.stay H.out (Below.refl _ _)
      · have q : (((a : Nat) : Int) == (m : Int)) = false := by rw [beq_eq_false_iff_ne]; exact_mod_cast e
        have HK' : Hid (k + 1 ≤ s.l.idxOf m) := by
          show k + 1 ≤ s.l.idxOf m
          refine Nat.lt_of_le_of_ne HK.out fun ek => ?_
          have hmem : m ∈ s.l := List.idxOf_lt_length_iff.1 (by omega)
          have := idx_get hmem
          rw [← ek, ha] at this
          exact e (by simpa using this)
        clear e ha
        go_wp2_with fail
        go_roundg (s.l.length - (k + 1))
        case measure => omega
        case rel => exact ⟨k + 1, by omega, rfl, by go_num, HK'.out, rfl⟩
    · have hki : ¬ ((k : Int) < (s.l.length : Int)) := by omega
      have hml : m ∉ s.l := fun q => by
        have := List.idxOf_lt_length_of_mem q
        have := HK.out
        omega
      have PE : Hid ((s.put m).l = s.l ++ [m]) := by show (s.put m).l = _; unfold AS.put add; simp only; rw [if_neg hml]
      have IE := hid (List.idxOf_eq_length hml)
      rename World => W
      obtain ⟨lv, hr, hU⟩ := H.out
      have e1 := hr.c1
      rw [c1] at e1
      obtain rfl := Option.some.inj e1
      have R := hid hr
      have HU := hid hU
      have ul := (hr.lt ub (.inl rfl)).2
      have un : ¬ (ub = W.heap.size) := by omega
      have b1 := bAl W (.cells #[] 33)
      have O1 := hid (msk_none W)
      have S1 := hid (hr.row.later b1)
      have B1 := hid b1
      have hl1 : ([] : List Nat).length + s.l.length ≤ 200000 := by simp; omega
      have hl2 : s.l.length + [m].length ≤ 200000 := by simp; omega
      have KU : Hid (∀ W', Below W.heap.size W W' → W'.cell? ⟨ub, 1, none⟩ = some (.slice la s.l.length lc) ∧ W'.frozen? ⟨ub, 1, none⟩ = false) := fun W' hb => by
        have b := blk_seen hb (Nat.le_refl _) R.out.box
        exact ⟨cell_blk b rfl, blk_free b 1⟩
      clear hr hU e1 b1 hml hd HK
      go_wp2_with (first
        | (at_builtin; refine wpList_msk (xs := []) (w2 := W) rfl _ _ rfl B1.out O1.out S1.out hl1 rfl rfl ?_; intro v4 w4 H4 HB4; clear O1; obtain ⟨a4, c4, rfl⟩ := Msk.slice H4.out)
        | (at_builtin; refine wpList_msk (xs := s.l) (ns := [m]) (w2 := W) rfl _ _ rfl (HB4.out.trans ((bAl w4 _).mono HB4.out.size)) (Msk.later H4.out (bAl w4 _)) (msk_one w4 m) hl2 rfl rfl ?_; intro v5 w5 H5 HB5; obtain ⟨a5, c5, rfl⟩ := Msk.slice H5.out; have ku := (KU.out _ HB5.out).1; have kf := (KU.out _ HB5.out).2))
      have FN := hid (R.out.renew (s' := s.put m) rfl (R.out.ok.put HM.out) HB5.out (by rw [PE.out]; exact H5.out))
      have el : Hid ((s.l ++ [m]).length = s.l.length + 1) := by show _ = _; simp
      go_ret2
      obtain ⟨h1, h2, h3⟩ := FN.out
      rw [el.out] at h1 h2 h3
      refine ⟨by rw [IE.out]; simp, _, ⟨_, h1, fun _ => Iff.rfl⟩, ⟨h2.os, h2.tape, h2.output, h2.size, fun k hk hn => h2.block k hk fun q => hn ((HU.out k).2 q)⟩, fun x hx => ?_⟩
      rcases hx with hx | hx
      · exact .inl ((HU.out x).2 (.inl hx))
      · exact .inr (h3 x hx)
end
end Go.Proofs.YtmiaepjlifceeaaDoor
