/- Contracts of blame: At, flatten, All. -/
import Derived.Test.YtkhhiddemihnbaaDoorKn
import Derived.Test.YtkhhiddemihnbaaDoorKp
namespace Go.Proofs.YtkhhiddemihnbaaDoor
open Go.RowKit Go.Shelf
/-- At, of what All answers: the error somewhere. -/
theorem at_top (Ad : Nat → Addr) (s : ByteArray) (d : Nat) (v : Value) (ls : List (List ByteArray × Nat)) (w : World) (h : Top Ad w.heap.size w d v ls) :
    Calls Tryd.prog 26 #[.string s, v] w fun e w' => ∃ v', e = .returned v' ∧ Tr Ad w'.heap.size w' (d + 1) v' (ls.map fun p => (s :: p.1, p.2)) ∧ Below w.heap.size w w' := by
  rcases h.tr.isIface with rfl | ⟨t, q, rfl⟩
  · refine (at_nil s w).mono ?_
    rintro e w' ⟨rfl, rfl⟩
    have : ls = [] := by
      cases h using Top.ways with
      | empty => rfl
      | one v p h => obtain ⟨t, q, e, _⟩ := h.1.shape; cases e
    subst this
    exact ⟨_, rfl, .empty _, Below.refl _ _⟩
  · refine (at_some s t q w).mono ?_
    rintro e w' ⟨rfl, rfl⟩
    have hb : Below w.heap.size w (w.alloc (.cells #[.string s, .iface t q] 105)) := (Below.refl _ _).alloc (Nat.le_refl _) _
    obtain ⟨c0, c1⟩ := cell_new2 w (.string s) (.iface t q) 105
    exact ⟨_, rfl, .blame d w.heap.size s _ ls (by simp) c0 c1 (h.tr.move hb hb.size), hb⟩
theorem noSeveralB (v : Value) (xT : TypeId) (w : World) : (Instr.typeAssert (.iface 103 v) xT 109 true).run Tryd.prog w = .ok (.tuple #[.pointer none, .bool false]) w := by kernel_rfl
theorem noSev (t : TypeId) (q : Value) (ht : t = 163 ∨ t = 103) (xT : TypeId) (w : World) : (Instr.typeAssert (.iface t q) xT 109 true).run Tryd.prog w = .ok (.tuple #[.pointer none, .bool false]) w := by
  rcases ht with rfl | rfl
  · exact noSeveral q xT w
  · exact noSeveralB q xT w
/-- A row of errors in memory, below B. -/
def Errs (B : Nat) (W : World) (v : Value) (us : List Value) : Prop := ∃ a c, v = .slice a us.length c ∧ (us = [] ∨ ∃ g, g < B ∧ a = some ⟨g, 0, none⟩ ∧ ∀ (j : Nat) x, us[j]? = some x → W.cell? ⟨g, j, none⟩ = some x)
theorem Errs.later {B : Nat} {W W' : World} {v : Value} {us : List Value} (h : Errs B W v us) (hb : Below B W W') : Errs B W' v us := by
  obtain ⟨a, c, h1, h2⟩ := h
  refine ⟨a, c, h1, h2.imp id ?_⟩
  rintro ⟨g, h0, h3, h4⟩
  exact ⟨g, h0, h3, fun j x hx => (hb.cell (p := ⟨g, j, none⟩) h0).trans (h4 j x hx)⟩
theorem own_errs {W : World} {B : Nat} {v : Value} {us : List Value} (h : W.ownsRow B 42 1 v us.length us) : Errs W.heap.size W v us := by
  obtain ⟨ga, gc, rfl⟩ := own_slice h
  refine ⟨ga, gc, rfl, ?_⟩
  by_cases h0 : 0 < us.length
  · obtain ⟨g, rfl, _, h1⟩ := own_some h h0
    exact .inr ⟨g, h1, rfl, fun j x hx => by rw [h.cellAt j (by have := (List.getElem?_eq_some_iff.1 hx).1; omega)]; exact hx⟩
  · exact .inl (List.eq_nil_of_length_eq_zero (by omega))
theorem app_cell (w : World) (x : Value) : ∀ (j : Nat) u, [x][j]? = some u → (w.alloc (.cells #[x] 42)).cell? ⟨w.heap.size, j, none⟩ = some u := by
  intro j u hu
  cases j with
  | zero => simp at hu; subst hu; exact new_cell w x 42
  | succ j => simp at hu
/-- What flatten makes of one error. -/
def Flt (B : Nat) (W : World) (u : Value) (vs : List Value) : Prop :=
  (u = .nilIface ∧ vs = []) ∨ (∃ t q, u = .iface t q ∧ (t = 163 ∨ t = 103) ∧ vs = [u]) ∨
  ∃ b ev, u = .iface 109 (.pointer (some ⟨b, 0, none⟩)) ∧ b < B ∧ W.cell? ⟨b, 0, none⟩ = some ev ∧ Errs B W ev vs ∧ vs.length ≤ 1000 ∧ ∀ v ∈ vs, ∃ t q, v = .iface t q ∧ (t = 163 ∨ t = 103)
theorem Flt.later {B : Nat} {W W' : World} {u : Value} {vs : List Value} (h : Flt B W u vs) (hb : Below B W W') : Flt B W' u vs := by
  rcases h with h | h | ⟨b, ev, h1, h2, h3, h4, h5⟩
  · exact .inl h
  · exact .inr (.inl h)
  · exact .inr (.inr ⟨b, ev, h1, h2, (hb.cell (p := ⟨b, 0, none⟩) h2).trans h3, h4.later hb, h5⟩)
/-- What flatten asks of its own call on a Several's errors. -/
def FlatOk : Prop := ∀ (fv ev : Value) (xs us : List Value) (B : Nat) (w : World), B ≤ w.heap.size → w.ownsRow B 42 1 fv xs.length xs → Errs B w ev us → (∀ u ∈ us, ∃ t q, u = .iface t q ∧ (t = 163 ∨ t = 103)) → xs.length + us.length ≤ 3000 →
    Calls Tryd.prog 49 #[fv, ev] w fun e w' => ∃ v', e = .returned v' ∧ w'.ownsRow B 42 1 v' (xs ++ us).length (xs ++ us) ∧ Below B w w'
theorem isSev (v : Value) (xT : TypeId) (w : World) : (Instr.typeAssert (.iface 109 v) xT 109 true).run Tryd.prog w = .ok (.tuple #[v, .bool true]) w := by kernel_rfl
set_option maxHeartbeats 2000000 in
set_option maxRecDepth 100000 in
/-- flatten, of errors each of which is known. -/
theorem flat_step (fv ev : Value) (xs : List Value) (us : List (Value × List Value)) (B : Nat) (w : World) (hB : B ≤ w.heap.size) (ho : w.ownsRow B 42 1 fv xs.length xs) (he : Errs B w ev (us.map Prod.fst)) (hu : ∀ u ∈ us, Flt B w u.1 u.2) (hx : xs.length + ((us.map Prod.snd).flatten).length ≤ 3000) (hx2 : us.length ≤ 3000)
    (hF : (∃ u ∈ us, ∃ b, u.1 = .iface 109 (.pointer (some ⟨b, 0, none⟩))) → FlatOk) :
    Calls Tryd.prog 49 #[fv, ev] w fun e w' => ∃ v', e = .returned v' ∧ w'.ownsRow B 42 1 v' (xs ++ (us.map Prod.snd).flatten).length (xs ++ (us.map Prod.snd).flatten) ∧ Below B w w' := by
  obtain ⟨fa, fc, rfl⟩ := own_slice ho
  have HO := hid ho
  obtain ⟨ea, ec, rfl, -⟩ := id he
  rw [List.length_map] at he ⊢
  have HEr := hid he
  have HU := hid hu
  have HF := hid hF
  have HX := hid hx
  have hui : (us.length : Int) ≤ 3000 := by omega
  clear ho he hu hF hx
  go_enter Tryd.func49, Tryd.ntmps49
  go_wp2_with fail
  go_loopw [0, 6, 7, 8, 9, 12] (fun f _ _ _ _ i wr => ∃ (k : Nat) (ga : Option Addr) (gc : Nat) (y : List Value), k ≤ us.length ∧ i = .int .i64 k ∧ f = .slice ga y.length gc ∧ y = xs ++ ((us.take k).map Prod.snd).flatten ∧ wr.ownsRow B 42 1 (.slice ga y.length gc) y.length y ∧ Below B w wr) (fun _ _ _ _ _ i _ => us.length - (intOf i).toNat)
  case atStart => exact ⟨0, fa, fc, xs, Nat.zero_le _, rfl, rfl, by simp, HO.out, Below.refl _ _⟩
  case round =>
    obtain ⟨k, ga, gc, y, hk, rfl, rfl, hy, ho, hb⟩ := hrel
    have HY := hid hy
    have HOy := hid ho
    have HB := hid hb
    clear hy ho hb HO
    by_cases hlt : k < us.length
    · obtain ⟨x, hxk⟩ := at_lt us k hlt
      have HT := hid (take_next hxk)
      have HM := hid (List.mem_of_getElem? hxk)
      obtain ⟨g, hgB, rfl, hcells⟩ : ∃ g, g < B ∧ ea = some ⟨g, 0, none⟩ ∧ ∀ (j : Nat) z, (us.map Prod.fst)[j]? = some z → wr.cell? ⟨g, j, none⟩ = some z := by
        obtain ⟨a, c, h1, h2⟩ := HEr.out.later HB.out
        rcases h2 with h2 | ⟨g, h3, h4, h5⟩
        · rw [List.map_eq_nil_iff] at h2; rw [h2] at hlt; simp at hlt
        · simp only [Value.slice.injEq] at h1; rw [h1.1]; exact ⟨g, h3, h4, h5⟩
      have c1 : wr.cell? ⟨g, k, none⟩ = some x.1 := hcells k x.1 (by simp [hxk])
      have hyl : y.length + x.2.length ≤ 3000 := by
        have h1 := HX.out
        have h2 := (cut_prefix HT.out id (x.2.map id) (List.prefix_refl _)).length_le
        have h3 : y.length = xs.length + (((us.take k).map Prod.snd).flatten).length := by rw [HY.out, List.length_append]
        simp only [List.length_append, List.map_id_fun, id_eq] at h2
        omega
      have HN : Hid (xs ++ ((us.take (k + 1)).map Prod.snd).flatten = y ++ x.2) := by show _ = _; rw [HT.out, HY.out]; simp
      have hsz : B ≤ wr.heap.size := Nat.le_trans hB HB.out.size
      clear hxk hcells
      rcases (HU.out x HM.out).later HB.out with ⟨hxn, hv⟩ | ⟨t, q, hxe, ht, hv⟩ | ⟨b, sv, hxe, hbB, hcb, her, hvl, hvs⟩
      · rw [hxn] at c1
        have R : Hid (y = xs ++ ((us.take (k + 1)).map Prod.snd).flatten) := by show _ = _; rw [HN.out, hv]; simp
        go_wp2_with fail
        go_roundw
        case rel => exact ⟨k + 1, ga, gc, y, by omega, by go_num, rfl, R.out, HOy.out, HB.out⟩
        case measure => simp [intOf]; omega
      · rw [hxe] at c1
        have nS := noSev t q ht
        have R : Hid (y ++ [.iface t q] = xs ++ ((us.take (k + 1)).map Prod.snd).flatten) := by show _ = _; rw [HN.out, hv, hxe]
        have hy1 : y.length + 1 ≤ 5000 := by rw [hv] at hyl; simp at hyl; omega
        clear ht hv hxe
        go_wp2_with (at_builtin; refine wpList_errs _ rfl (.tmp 17) (.tmp 19) rfl B _ y rfl ?_ wr.heap.size 1 [.iface t q] rfl ?_ ?_ ?_ ?_ ?_; exact HOy.out.alloc _; exact app_cell wr _; intro u hu; simp at hu; subst hu; rfl; exact hy1; exact Nat.le_trans hsz (by simp); intro g1 c2 y1 w2 h2 o2 b2)
        go_roundw
        case rel => exact ⟨k + 1, g1, c2, y1, by omega, by go_num, rfl, by rw [h2.out, R.out], o2.out, (HB.out.alloc hsz _).trans b2.out⟩
        case measure => simp [intOf]; omega
      · rw [hxe] at c1
        have yS := isSev
        have R : Hid (y ++ x.2 = xs ++ ((us.take (k + 1)).map Prod.snd).flatten) := HN.out.symm
        have C := hid (HF.out ⟨x, HM.out, b, hxe⟩ (.slice ga y.length gc) sv y x.2 B wr hsz HOy.out her hvs hyl)
        clear her hvs hxe
        go_wp2_with fail
        refine C.out.mono ?_
        rintro e w2 ⟨v2, rfl, o2, b2⟩
        obtain ⟨g2, c2, rfl⟩ := own_slice o2
        have O2 := hid o2
        have B2 := hid (HB.out.trans b2)
        clear o2 b2
        generalize hyx : y ++ x.2 = yx at *
        go_wp2_with fail
        go_roundw
        case rel => exact ⟨k + 1, g2, c2, yx, by omega, by go_num, rfl, R.out, O2.out, B2.out⟩
        case measure => simp [intOf]; omega
    · have e : Hid (y = xs ++ (us.map Prod.snd).flatten) := by show _ = _; rw [HY.out, List.take_of_length_le (by omega)]
      go_wp2_with fail
      go_ret
      have h := HOy.out
      exact ⟨_, rfl, by rw [← e.out]; exact h, HB.out⟩
theorem flat_id : ∀ us : List Value, ((us.map fun u => (u, [u])).map Prod.snd).flatten = us
  | [] => rfl
  | u :: us => by simpa using flat_id us
theorem fst_id : ∀ us : List Value, (us.map fun u => (u, [u])).map Prod.fst = us
  | [] => rfl
  | u :: us => by simpa using fst_id us
theorem flat_plain : FlatOk := by
  intro fv ev xs us B w hB ho he hu hx
  have h := flat_step fv ev xs (us.map fun u => (u, [u])) B w hB ho (by rw [fst_id us]; exact he) (fun u hu' => by
    obtain ⟨v, hv, rfl⟩ := List.mem_map.1 hu'
    obtain ⟨t, q, e, ht⟩ := hu v hv
    exact .inr (.inl ⟨t, q, e, ht, rfl⟩)) (by
      have : ((us.map fun u => (u, [u])).map Prod.snd).flatten = us := flat_id us
      rw [this]; exact hx) (by simp; omega) (by
    rintro ⟨u, hu', b, hb⟩
    obtain ⟨v, hv, rfl⟩ := List.mem_map.1 hu'
    obtain ⟨t, q, e, ht⟩ := hu v hv
    simp only at hb
    rw [e] at hb
    cases hb
    rcases ht with h | h <;> cases h)
  rw [show ((us.map fun u => (u, [u])).map Prod.snd).flatten = us from flat_id us] at h
  exact h
end Go.Proofs.YtkhhiddemihnbaaDoor
