/- Way. -/
import Derived.Test.YtmiaepjlifceeaaDoorAh
namespace Go.Proofs.YtmiaepjlifceeaaDoor
open Go.RowKit Go.Shelf Go.Maps
/-- A way goes on: the set, the nodes' sets, the nodes that were come through. -/
structure Wy where
  m : Nat
  l : List Nat
  w : List Nat
def Wy.stp (f : Nat → Nat → Nat) (t : Wy) (c : Nat) : Wy := ⟨f t.m c, add t.l (f t.m c), t.w ++ [t.l.idxOf (f t.m c)]⟩
def Wy.run (f : Nat → Nat → Nat) (t : Wy) (ds : List Nat) : Wy := ds.foldl (Wy.stp f) t
theorem Wy.run_next (f : Nat → Nat → Nat) (t : Wy) {ds : List Nat} {k c : Nat} (h : ds[k]? = some c) : t.run f (ds.take (k + 1)) = (t.run f (ds.take k)).stp f c := by
  obtain ⟨hl, rfl⟩ := List.getElem?_eq_some_iff.1 h
  unfold Wy.run
  rw [List.take_succ_eq_append_getElem hl, List.foldl_append]
  rfl
theorem Wy.run_len (f : Nat → Nat → Nat) (t : Wy) (ds : List Nat) : (t.run f ds).w.length = t.w.length + ds.length := by
  induction ds generalizing t with
  | nil => rfl
  | cons c ds ih =>
    rw [show t.run f (c :: ds) = (t.stp f c).run f ds from rfl, ih]
    simp [Wy.stp]
    omega
theorem Wy.run_lt {n : Nat} (f : Nat → Nat → Nat) (t : Wy) (ds : List Nat) (h : t.m < 2 ^ n) (hf : ∀ m c, m < 2 ^ n → c ∈ ds → f m c < 2 ^ n) : (t.run f ds).m < 2 ^ n := by
  induction ds generalizing t with
  | nil => exact h
  | cons c ds ih =>
    rw [show t.run f (c :: ds) = (t.stp f c).run f ds from rfl]
    exact ih _ (hf _ _ h List.mem_cons_self) fun m d hm hd => hf m d hm (List.mem_cons_of_mem _ hd)
/-- The whole way: first less, then more. -/
def way (l : List Nat) (i x y : Nat) : Wy := ((⟨x, l, [i]⟩ : Wy).run wo (lst 32 (an x y))).run wi (lst 32 (an y x))
/-- A way that is gone, in memory. -/
structure WR (B : Nat) (W : World) (rb n : Nat) (S0 : Nat → Prop) (lv mv : Value) (ds es : List Nat) (S : Nat → Prop) (l : List Nat) (wv : Value) (wl : List Nat) (wr : World) : Prop where
  atl : Atl B wr rb ⟨n, l⟩ S
  st : St S0 W wr
  new : ∀ x, S x → S0 x ∨ W.heap.size ≤ x
  way : Ints W.heap.size wr wv wl
  less : Ints W.heap.size wr lv ds
  more : Ints W.heap.size wr mv es
  nw : ∀ k, wv.ownBlock = some k → ¬ S k
  nl : ∀ k, lv.ownBlock = some k → ¬ S k
  nm : ∀ k, mv.ownBlock = some k → ¬ S k
  lw : ∀ k, lv.ownBlock = some k → ¬ (wv.ownBlock = some k)
  mw : ∀ k, mv.ownBlock = some k → ¬ (wv.ownBlock = some k)
section
variable {B : Nat} {W : World} {rb n : Nat} {S0 : Nat → Prop} {lv mv : Value} {ds es : List Nat} {S : Nat → Prop} {l : List Nat} {wv : Value} {wl : List Nat} {wr w2 : World}
theorem WR.node {l' : List Nat} (h : WR B W rb n S0 lv mv ds es S l wv wl wr) (hg : Goes B rb ⟨n, l'⟩ S wr w2) : ∃ S', WR B W rb n S0 lv mv ds es S' l' wv wl w2 := by
  obtain ⟨S', a, st, f⟩ := hg
  have q : ∀ {v : Value} {t : List Nat}, Ints W.heap.size wr v t → (∀ k, v.ownBlock = some k → ¬ S k) → ∀ k, v.ownBlock = some k → ¬ S' k := fun hi hn k hk e => by
    rcases f k e with e | e
    · exact hn k hk e
    · have := (hi.lt k hk).2; omega
  refine ⟨S', a, h.st.trans st fun x hx e => (h.new x e).elim id fun e => by omega, fun x e => ?_, h.way.kept st h.nw, h.less.kept st h.nl, h.more.kept st h.nm, q h.way h.nw, q h.less h.nl, q h.more h.nm, h.lw, h.mw⟩
  rcases f x e with e | e
  · exact h.new x e
  · exact .inr (Nat.le_trans h.st.size e)
theorem WR.append {wv' : Value} {k : Nat} (h : WR B W rb n S0 lv mv ds es S l wv wl wr) (hi : Ints W.heap.size w2 wv' (wl ++ [k])) (st : St (fun x => wv.ownBlock = some x) wr w2) (hat : wv'.ownBlock = wv.ownBlock ∨ ∃ x, wv'.ownBlock = some x ∧ wr.heap.size ≤ x) :
    WR B W rb n S0 lv mv ds es S l wv' (wl ++ [k]) w2 := by
  have q : ∀ {v : Value} {t : List Nat}, Ints W.heap.size wr v t → (∀ k, v.ownBlock = some k → ¬ (wv.ownBlock = some k)) → ∀ k, v.ownBlock = some k → ¬ (wv'.ownBlock = some k) := fun hv hn k hk e => by
    rcases hat with a | ⟨x, a, b⟩
    · exact hn k hk (a ▸ e)
    · rw [a] at e
      have := (hv.lt k hk).2
      simp at e
      omega
  refine ⟨h.atl.kept st fun k hk e => h.nw k e hk, h.st.trans st fun x hx e => by have := (h.way.lt x e).1; omega, h.new, hi, h.less.kept st h.lw, h.more.kept st h.mw, fun k hk e => ?_, h.nl, h.nm, q h.less h.lw, q h.more h.mw⟩
  rcases hat with a | ⟨x, a, b⟩
  · exact h.nw k (a ▸ hk) e
  · rw [a] at hk
    have := (h.atl.lt k e).2
    simp at hk
    omega
end
section
variable {B : Nat} {W W' : World} {rb : Nat} {s : AS} {S : Nat → Prop}
set_option maxHeartbeats 1600000 in
set_option maxRecDepth 100000 in
theorem way_ok (h : Atl B W rb s S) (i j x y : Nat) (hi : s.l[i]? = some x) (hj : s.l[j]? = some y) :
    Calls Tryd.prog 17 #[.pointer (some ⟨rb, 0, none⟩), .int .i64 (i : Int), .int .i64 (j : Int)] W fun e W' => ∃ v, e = .returned (.tuple #[v, .nilIface]) ∧ Ints W.heap.size W' v (way s.l i x y).w ∧ ∃ S', Atl B W' rb ⟨s.n, (way s.l i x y).l⟩ S' ∧ St S W W' ∧ (∀ x, S' x → S x ∨ W.heap.size ≤ x) ∧ ∀ k, v.ownBlock = some k → ¬ S' k := by
  have M1 := hid (mask_some h i x hi)
  have M2 := hid (mask_some h j y hj)
  have x32 := (h.u32 hi).2
  have y32 := (h.u32 hj).2
  have LX := hid (fun w => list_any (an x y) (Nat.lt_of_le_of_lt (an_le _ _) x32) w)
  have LY := hid (fun w => list_any (an y x) (Nat.lt_of_le_of_lt (an_le _ _) y32) w)
  have ex := hid (bits_an32 x y x32 y32)
  have ey := hid (bits_an32 y x y32 x32)
  have XW : Hid (way s.l i x y = ((⟨x, s.l, [i]⟩ : Wy).run wo (lst 32 (an x y))).run wi (lst 32 (an y x))) := rfl
  have H := hid h
  have hn16 := h.ok.n16
  have X0 := hid (h.u32 hi)
  have AX := hid (Nat.lt_of_le_of_lt (an_le x y) (h.u32 hi).1)
  have AY := hid (Nat.lt_of_le_of_lt (an_le y x) (h.u32 hj).1)
  clear h hi hj x32 y32
  go_enter Tryd.func17, Tryd.ntmps17
  go_wp2_with fail
  refine M1.out.mono ?_
  rintro e w1 ⟨rfl, rfl⟩
  clear M1
  go_wp2_with fail
  refine M2.out.mono ?_
  rintro e w2 ⟨rfl, rfl⟩
  clear M2
  go_wp2_with fail
  rw [ex.out]
  refine (LX.out _).mono ?_
  rintro e w3 ⟨lv, rfl, hl3, b3⟩
  obtain ⟨la, lc, rfl⟩ := hl3.slice
  have L3 := hid hl3
  have B3 := hid b3
  have hll := lst_len (an x y) 32
  have CX : Hid (∀ c ∈ lst 32 (an x y), c < s.n) := fun c hc => by
    have := (lst_mem (an x y) c 32).1 hc
    refine Nat.lt_of_not_le fun q => ?_
    rw [bit_out AX.out q] at this
    simp at this
  generalize lst 32 (an x y) = ds at *
  clear hl3 b3 LX AX
  go_wp2_with fail
  rw [ey.out]
  refine (LY.out _).mono ?_
  rintro e w4 ⟨mv, rfl, hm4, b4⟩
  obtain ⟨ma, mc, rfl⟩ := hm4.slice
  have hml := lst_len (an y x) 32
  have CY : Hid (∀ c ∈ lst 32 (an y x), c < s.n) := fun c hc => by
    have := (lst_mem (an y x) c 32).1 hc
    refine Nat.lt_of_not_le fun q => ?_
    rw [bit_out AY.out q] at this
    simp at this
  have YW : Hid (way s.l i x y = ((⟨x, s.l, [i]⟩ : Wy).run wo ds).run wi (lst 32 (an y x))) := XW.out
  generalize lst 32 (an y x) = es at *
  have b5 := bAl w4 (.cells #[.int .i64 (i : Int)] 3)
  have b24 := B3.out.trans (b4.mono B3.out.size)
  have b25 := b24.trans (b5.mono b24.size)
  have l5 := (L3.out.later b4).later b5
  have m5 := hm4.later b5
  have i5 := ints_one w4 i
  have W5 : Hid (WR B w2 rb s.n S (.slice la ds.length lc) (.slice ma es.length mc) ds es S s.l (.slice (some ⟨w4.heap.size, 0, none⟩) 1 1) [i] (w4.alloc (.cells #[.int .i64 (i : Int)] 3))) := by
    have z : ∀ {v : Value} {t : List Nat} {w : World}, Ints w2.heap.size w v t → ∀ k, v.ownBlock = some k → ¬ S k := fun hi k hk e => by
      have := (hi.lt k hk).1; have := (H.out.lt k e).2; omega
    have m5' := m5.lower (B' := w2.heap.size) B3.out.size
    have i5' := i5.lower (B' := w2.heap.size) b24.size
    refine ⟨H.out.later b25, St.of_below b25, fun _ e => .inl e, i5', l5, m5', z i5', z l5, z m5', fun k hk e => ?_, fun k hk e => ?_⟩
    · have := (L3.out.lt k hk).2
      have := b4.size
      simp [Value.ownBlock] at e
      omega
    · have := (hm4.lt k hk).2
      simp [Value.ownBlock] at e
      omega
  clear hm4 b4 b5 b24 b25 l5 m5 i5 LY AY L3 B3 XW ex ey
  have hdi : (ds.length : Int) ≤ 32 := by omega
  have hei : (es.length : Int) ≤ 32 := by omega
  go_wp2_with fail
  go_loopw [8, 13, 15, 50] (fun mv' wv _ q wr => ∃ k : Nat, k ≤ ds.length ∧ q = .int .i64 (k : Int) ∧ ∃ (S1 : Nat → Prop) (t : Wy), mv' = .int .u32 (t.m : Int) ∧ Hid (t = (⟨x, s.l, [i]⟩ : Wy).run wo (ds.take k)) ∧ Hid (t.m < 2 ^ s.n) ∧ t.w.length ≤ 1 + k ∧ Hid (WR B w2 rb s.n S (.slice la ds.length lc) (.slice ma es.length mc) ds es S1 t.l wv t.w wr)) (fun _ _ _ q _ => ds.length - (intOf q).toNat)
  case atStart => exact ⟨0, Nat.zero_le _, rfl, S, ⟨x, s.l, [i]⟩, rfl, rfl, X0.out.1, Nat.le_refl _, W5.out⟩
  case round =>
    clear W5
    obtain ⟨k, hk, rfl, S1, t, rfl, HT, HM, htl, HR⟩ := hrel
    by_cases hlt : k < ds.length
    · have hki : (k : Int) < (ds.length : Int) := by omega
      obtain ⟨c, hc⟩ := at_lt ds k hlt
      obtain ⟨g, rfl, -, -⟩ := HR.out.less.some (by omega)
      have d0 := HR.out.less.cell hc
      have hcn := CX.out c (List.mem_of_getElem? hc)
      have tm32 : t.m < 4294967296 := by have := pow_le hn16; have := HM.out; omega
      have WO := hid (fun w => without_in t.m c tm32 (by omega) w)
      have NO := hid (atl_node HR.out.atl (wo t.m c) (wo_lt HM.out))
      have E1 : Hid (t.stp wo c = (⟨x, s.l, [i]⟩ : Wy).run wo (ds.take (k + 1))) := by show _ = _; rw [Wy.run_next _ _ hc, ← HT.out]
      have M1 := hid (wo_lt (c := c) HM.out)
      unfold Wy.stp at E1
      unfold AS.put at NO
      simp only at NO
      generalize wo t.m c = m' at *
      clear hc tm32 hcn
      go_wp2_with fail
      refine (WO.out _).mono ?_
      rintro e w5 ⟨rfl, rfl⟩
      clear WO
      go_wp2_with fail
      refine NO.out.mono ?_
      rintro e w6 ⟨rfl, hg6⟩
      obtain ⟨S2, hr6⟩ := HR.out.node hg6
      have R6 := hid hr6
      have hul : t.w.length ≤ 100000 := by omega
      have hw6 : w2.heap.size ≤ w6.heap.size := hr6.st.size
      obtain ⟨wa, wc, rfl⟩ := hr6.way.slice
      clear NO hg6 hr6 d0
      go_wp2_with (at_builtin; refine wpList_num rfl _ _ rfl R6.out.way hul hw6 rfl rfl ?_; intro v' w7 ho hst hat)
      have R7 := hid (R6.out.append ho.out hst.out hat.out)
      go_roundw
      case rel => exact ⟨k + 1, by omega, by go_num, S2, ⟨m', add t.l m', t.w ++ [t.l.idxOf m']⟩, rfl, E1.out, M1.out, by simp; omega, R7.out⟩
      case measure => simp [intOf]; omega
    · have hki : ¬ ((k : Int) < (ds.length : Int)) := by omega
      have T1 : Hid (t = (⟨x, s.l, [i]⟩ : Wy).run wo ds) := by show _ = _; rw [HT.out, List.take_of_length_le (by omega)]
      have htl2 : t.w.length ≤ 33 := by omega
      rename World => wq
      clear HT hk hki htl
      go_wp2_with fail
      go_loopw [8, 13, 17, 66] (fun mv' wv _ q wr => ∃ k : Nat, k ≤ es.length ∧ q = .int .i64 (k : Int) ∧ ∃ (S1 : Nat → Prop) (u : Wy), mv' = .int .u32 (u.m : Int) ∧ Hid (u = t.run wi (es.take k)) ∧ Hid (u.m < 2 ^ s.n) ∧ u.w.length ≤ 33 + k ∧ Hid (WR B w2 rb s.n S (.slice la ds.length lc) (.slice ma es.length mc) ds es S1 u.l wv u.w wr)) (fun _ _ _ q _ => es.length - (intOf q).toNat)
      case atStart => exact ⟨0, Nat.zero_le _, rfl, S1, t, rfl, rfl, HM.out, htl2, HR.out⟩
      case round =>
        clear HR HM
        obtain ⟨k, hk, rfl, S1, u, rfl, HT, HM, htl, HR⟩ := hrel
        by_cases hlt : k < es.length
        · have hki : (k : Int) < (es.length : Int) := by omega
          obtain ⟨c, hc⟩ := at_lt es k hlt
          obtain ⟨g, rfl, -, -⟩ := HR.out.more.some (by omega)
          have d0 := HR.out.more.cell hc
          have hcn := CY.out c (List.mem_of_getElem? hc)
          have tm32 : u.m < 4294967296 := by have := pow_le hn16; have := HM.out; omega
          have WO := hid (fun w => with_in u.m c tm32 (by omega) w)
          have NO := hid (atl_node HR.out.atl (wi u.m c) (wi_lt HM.out hcn))
          have E1 : Hid (u.stp wi c = t.run wi (es.take (k + 1))) := by show _ = _; rw [Wy.run_next _ _ hc, ← HT.out]
          have M1 := hid (wi_lt HM.out hcn)
          unfold Wy.stp at E1
          unfold AS.put at NO
          simp only at NO
          generalize wi u.m c = m' at *
          clear hc tm32 hcn
          go_wp2_with fail
          refine (WO.out _).mono ?_
          rintro e w5 ⟨rfl, rfl⟩
          clear WO
          go_wp2_with fail
          refine NO.out.mono ?_
          rintro e w6 ⟨rfl, hg6⟩
          obtain ⟨S2, hr6⟩ := HR.out.node hg6
          have R6 := hid hr6
          have hul : u.w.length ≤ 100000 := by omega
          have hw6 : w2.heap.size ≤ w6.heap.size := hr6.st.size
          obtain ⟨wa, wc, rfl⟩ := hr6.way.slice
          clear NO hg6 hr6 d0
          go_wp2_with (at_builtin; refine wpList_num rfl _ _ rfl R6.out.way hul hw6 rfl rfl ?_; intro v' w7 ho hst hat)
          have R7 := hid (R6.out.append ho.out hst.out hat.out)
          go_roundw
          case rel => exact ⟨k + 1, by omega, by go_num, S2, ⟨m', add u.l m', u.w ++ [u.l.idxOf m']⟩, rfl, E1.out, M1.out, by simp; omega, R7.out⟩
          case measure => simp [intOf]; omega
        · have hki : ¬ ((k : Int) < (es.length : Int)) := by omega
          have T2 : Hid (u = way s.l i x y) := by show _ = _; rw [HT.out, List.take_of_length_le (by omega), YW.out, T1.out]
          clear HT
          go_wp2_with fail
          go_ret2
          have R := HR.out
          rw [T2.out] at R
          exact ⟨_, rfl, R.way, S1, R.atl, R.st, R.new, R.nw⟩
end
end Go.Proofs.YtmiaepjlifceeaaDoor
