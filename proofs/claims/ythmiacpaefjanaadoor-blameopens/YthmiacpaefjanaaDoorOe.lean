/- BlameOpens: the walk. -/
import Derived.Test.YthmiacpaefjanaaDoorOd
namespace Go.Proofs.YthmiacpaefjanaaDoor
open Go.RowKit Go.Shelf
/-- What errors.As leaves of a Blame that was laid behind its box. -/
structure Opened (W W' : World) (s : ByteArray) (v : Value) : Prop where
  below : Below W.heap.size W W'
  box : W'.cell? ⟨W.heap.size, 0, none⟩ = some (.pointer (some ⟨W.heap.size + 1, 0, none⟩))
  wher : W'.cell? ⟨W.heap.size + 1, 0, none⟩ = some (.string s)
  what : W'.cell? ⟨W.heap.size + 1, 1, none⟩ = some v
theorem Opened.later {W W' W2 : World} {s : ByteArray} {v : Value} (h : Opened W W' s v) (hb : Below W'.heap.size W' W2) : Opened W W2 s v :=
  ⟨h.below.trans (hb.mono h.below.size), Below.seen hb (Nat.le_refl _) h.box, Below.seen hb (Nat.le_refl _) h.wher, Below.seen hb (Nat.le_refl _) h.what⟩
def asW (W : World) (s : ByteArray) (v : Value) : World := (W.alloc (.cells #[.pointer none] 50)).alloc (.cells #[.string s, v] 54)
theorem as_opened (W : World) (s : ByteArray) (v : Value) (hg : ErrT W) :
    Calls Tryd.prog 22 #[.iface 50 (.pointer (some ⟨W.heap.size + 1, 0, none⟩)), .iface 52 (.pointer (some ⟨W.heap.size, 0, none⟩))] (asW W s v) fun ev w' => ev = .returned (.bool true) ∧ Opened W w' s v := by
  have b1 : Below W.heap.size W (W.alloc (.cells #[.pointer none] 50)) := (Below.refl _ _).alloc (Nat.le_refl _) _
  have b2 : Below (W.alloc (.cells #[.pointer none] 50)).heap.size (W.alloc (.cells #[.pointer none] 50)) (asW W s v) := (Below.refl _ _).alloc (Nat.le_refl _) _
  have c0 : (asW W s v).cell? ⟨W.heap.size, 0, none⟩ = some (.pointer none) := (b2.cell (p := ⟨W.heap.size, 0, none⟩) (by simp)).trans (new_cell W _ 50)
  have f0 : (asW W s v).frozen? ⟨W.heap.size, 0, none⟩ = false := (b2.frozen (p := ⟨W.heap.size, 0, none⟩) (by simp)).trans (new_free W _ 50)
  obtain ⟨d0, d1⟩ := cell_new2 (W.alloc (.cells #[.pointer none] 50)) (.string s) v 54
  have hsz : (W.alloc (.cells #[.pointer none] 50)).heap.size = W.heap.size + 1 := by simp
  rw [hsz] at d0 d1
  refine (As_blame ⟨W.heap.size + 1, 0, none⟩ ⟨W.heap.size, 0, none⟩ (.pointer none) (asW W s v) ((hg.later b1).later b2) c0 f0).mono ?_
  rintro ev w' ⟨h1, w1, h2, rfl⟩
  have hlt : W.heap.size + 1 < (asW W s v).heap.size := by simp [asW]
  have e0 : w1.cell? ⟨W.heap.size + 1, 0, none⟩ = some (.string s) := (h2.cell (p := ⟨W.heap.size + 1, 0, none⟩) hlt).trans d0
  have e1 : w1.cell? ⟨W.heap.size + 1, 1, none⟩ = some v := (h2.cell (p := ⟨W.heap.size + 1, 1, none⟩) hlt).trans d1
  obtain ⟨k1, k2⟩ := filled (p := .pointer (some ⟨W.heap.size + 1, 0, none⟩)) b2 h2
  refine ⟨h1, k1, k2, ?_, ?_⟩
  · rw [World.cell?_setCell_far _ _ _ _ (by simp)]; exact e0
  · rw [World.cell?_setCell_far _ _ _ _ (by simp)]; exact e1
theorem as_found (W : World) (b : Addr) (hg : ErrT W) :
    Calls Tryd.prog 22 #[.iface 57 (.pointer (some b)), .iface 58 (.pointer (some ⟨W.heap.size, 0, none⟩))] (W.alloc (.cells #[.pointer none] 57)) fun ev w' => ev = .returned (.bool true) ∧ Below W.heap.size W w' ∧ w'.cell? ⟨W.heap.size, 0, none⟩ = some (.pointer (some b)) := by
  have b1 : Below W.heap.size W (W.alloc (.cells #[.pointer none] 57)) := (Below.refl _ _).alloc (Nat.le_refl _) _
  refine (As_several b ⟨W.heap.size, 0, none⟩ (.pointer none) _ (hg.later b1) (new_cell W _ 57) (new_free W _ 57)).mono ?_
  rintro ev w' ⟨h1, w1, h2, rfl⟩
  obtain ⟨k1, k2⟩ := filled (p := .pointer (some b)) (Below.refl _ _) h2
  exact ⟨h1, k1, k2⟩
theorem top_split {Ad : Nat → Addr} {n₀ d : Nat} {W : World} {t : TypeId} {q : Value} {ls : List (List ByteArray × Nat)} (h : Top Ad n₀ W d (.iface t q) ls) :
    (∃ p, ls = [p] ∧ Chn Ad n₀ W d (.iface t q) p) ∨ (t = 57 ∧ ∃ b vs, q = .pointer (some ⟨b, 0, none⟩) ∧ ls = vs.map Prod.snd ∧ Sev Ad n₀ W d b vs) := by
  cases h with
  | one _ p h1 => exact .inl ⟨p, rfl, h1⟩
  | many b vs h1 => exact .inr ⟨rfl, b, vs, rfl, rfl, h1⟩
theorem unwraps_sev {Ad : Nat → Addr} {d b : Nat} {W : World} {vs : List (Value × (List ByteArray × Nat))} (h : Sev Ad W.heap.size W d b vs) (n : Nat) (hn : vs.length = n) :
    Calls Tryd.prog 25 #[.pointer (some ⟨b, 0, none⟩)] W fun e w' => ∃ g c, e = .returned (.slice (some ⟨g, 0, none⟩) n c) ∧ W.heap.size ≤ g ∧ (∃ x, w'.cell? ⟨g, 0, none⟩ = some x) ∧ w'.frozen? ⟨g, 0, none⟩ = false ∧ n ≤ c ∧ Below W.heap.size W w' := by
  subst hn
  obtain ⟨g, c, hb, hg, cb, cg⟩ := h.lay
  have two := h.two
  have few := h.few
  have e : (vs.map Prod.fst).length = vs.length := by simp
  have hC := unwraps_any b g c (vs.map Prod.fst) W (by rw [e]; exact few) (by rw [e]; exact cb) (fun j u hu => by
    rw [List.getElem?_map] at hu
    cases hv : vs[j]? with
    | none => rw [hv] at hu; simp at hu
    | some x => rw [hv] at hu; simp at hu; rw [← hu]; exact cg j x hv) (fun u hu => by
    obtain ⟨x, hx, rfl⟩ := List.mem_map.1 hu
    exact (h.each x hx).one)
  refine hC.mono ?_
  rintro ev w' ⟨ga, gc, rfl, ho, hbl⟩
  rw [e] at ho ⊢
  obtain ⟨g', rfl, h1, h2⟩ := own_some ho (by omega)
  have hc := ho.cellAt 0 (by omega)
  have h0 : (vs.map Prod.fst)[0]? = some (vs[0]'(by omega)).1 := by rw [List.getElem?_map, List.getElem?_eq_getElem (by omega)]; rfl
  refine ⟨g', gc, rfl, h1, ⟨_, hc.trans h0⟩, ho.frozenAt 0, ?_, hbl⟩
  rcases ho.2 with ⟨hx, _⟩ | ⟨_, cap, _, hx, _, _, hle, _⟩
  · simp at hx
  · simp at hx; omega
set_option maxHeartbeats 4000000 in
set_option maxRecDepth 100000 in
theorem opens_law (Ad : Nat → Addr) (w : World) (s : ByteArray) (v : Value) (rs : List (Value × List Twg)) (hE : Env w Ad) (hg : ErrT w) (h : Rows2 w v rs) :
    Calls Tryd.prog 7 #[.string s, v] w fun e w' => e = .returned (.bool true) ∧ Below w.heap.size w w' := by
  have HE := hid hE
  have HR := hid h
  have HG := hid hg
  have AC := hid (awake_any w Ad hE)
  obtain ⟨⟨a, c, rfl, -⟩, -⟩ := h
  clear hE hg
  go_enter Tryd.func7, Tryd.ntmps7
  go_wp2_with fail
  refine AC.out.mono ?_
  rintro e w1 ⟨rfl, hb1⟩
  have B1 := hid hb1
  have GC := hid (great_any w1 _ rs (HR.out.later hb1))
  clear hb1 AC
  go_wp2_with fail
  refine GC.out.mono ?_
  rintro e w1 ⟨⟨g, rfl, hsm⟩, rfl⟩
  cases g with
  | true =>
    clear hsm
    go_wp2_with fail
    go_ret
    exact ⟨rfl, B1.out⟩
  | false =>
    have HS := hid (hsm rfl)
    have hl20 : (leaves2 rs).length ≤ 20 := Nat.le_trans (leaves2_len rs) HS.out.1
    have SM := hid (leaves2_small HS.out)
    have C1 := hid (bunch_any Ad w1 _ rs 2 (HE.out.later B1.out) (HR.out.later B1.out) HS.out)
    clear hsm GC
    go_wp2_with fail
    refine C1.out.mono ?_
    rintro e w2 ⟨v2, rfl, t2, hb2⟩
    have B2 := hid (B1.out.trans (hb2.mono B1.out.size))
    have L2 := hid (leaves_any Ad v2 _ 12 w2 (HE.out.later B2.out) t2.tr (by omega) SM.out (by omega))
    have T2 := hid t2
    clear t2 hb2 C1
    go_wp2_with fail
    refine L2.out.mono ?_
    rintro e w3 ⟨x3, rfl, ho3, hb3⟩
    have B3 := hid (B2.out.trans (hb3.mono B2.out.size))
    obtain ⟨xa, xc, rfl⟩ := own_slice ho3
    have T3 := hid (T2.out.later hb3)
    obtain ⟨ls, hls⟩ : ∃ ls, ls = leaves2 rs := ⟨_, rfl⟩
    rw [← hls] at hl20 T3 SM ⊢
    clear ho3 hb3 L2 T2 hls HS B2 B1 HR
    have hl20i : (ls.length : Int) ≤ 20 := by omega
    have G3 := hid (HG.out.later B3.out)
    have UN := hid unwrap_none
    have US := hid unwraps_none
    have E24 := hid err24
    have E26 := hid err26
    by_cases he : ls = []
    · have T' := T3.out
      rw [he] at T'
      obtain rfl := T'.nil
      have hn1 : ¬ ((1 : Int) < (ls.length : Int)) := by simp [he]
      have AN := hid (oa_nil (.iface 58 (.pointer (some ⟨w3.heap.size, 0, none⟩))) (w3.alloc (.cells #[.pointer none] 57)))
      have B4 := hid (B3.out.alloc B3.out.size (.cells #[.pointer none] 57))
      clear T' he
      go_wp2_with fail
      refine AN.out.mono ?_
      rintro e w4 ⟨rfl, rfl⟩
      go_wp2_with fail
      refine (US.out _).mono ?_
      rintro e w10 ⟨rfl, rfl⟩
      go_wp2_with fail
      refine (E26.out _ _).mono ?_
      rintro e w11 ⟨rfl, rfl⟩
      go_wp2_with fail
      refine (UN.out _).mono ?_
      rintro e w12 ⟨rfl, rfl⟩
      go_wp2_with fail
      refine (E24.out _ _).mono ?_
      rintro e w13 ⟨rfl, rfl⟩
      go_wp2_with fail
      go_ret
      exact ⟨rfl, B4.out⟩
    · obtain ⟨t, q, rfl⟩ := T3.out.some he
      have AT := hid (at_some s t q (w3.alloc (.cells #[.pointer none] 50)))
      have AO := hid (as_opened w3 s (.iface t q) G3.out)
      unfold asW at AO
      go_wp2_with fail
      refine AT.out.mono ?_
      rintro e w4 ⟨rfl, rfl⟩
      clear AT
      go_wp2_with fail
      refine AO.out.mono ?_
      rintro e w4 ⟨rfl, ho⟩
      clear AO
      have O4 := hid ho
      obtain ⟨-, c0, c1, c2⟩ := ho
      have T4 := hid (T3.out.later O4.out.below)
      have B4 := hid (B3.out.trans (O4.out.below.mono B3.out.size))
      have UC := hid (unwrap_any (w3.heap.size + 1) t q w4 c2)
      have LV := hid (leaves_any Ad _ ls 12 w4 (HE.out.later B4.out) T4.out.tr (by omega) SM.out (by omega))
      go_wp2_with fail
      refine UC.out.mono ?_
      rintro e w5 ⟨rfl, rfl⟩
      clear UC
      go_wp2_with fail
      refine LV.out.mono ?_
      rintro e w6 ⟨x6, rfl, ho6, hb6⟩
      obtain ⟨ya, yc, rfl⟩ := own_slice ho6
      have O6 := hid (O4.out.later hb6)
      have T6 := hid (T4.out.later hb6)
      have B6 := hid (B4.out.trans (hb6.mono B4.out.size))
      clear LV ho6 hb6 c0 c1 c2 T4 B4 O4 T3
      obtain ⟨-, c0, c1, c2⟩ := O6.out
      go_wp2_with fail
      refine (E24.out _ _).mono ?_
      rintro e w7 ⟨rfl, rfl⟩
      rcases top_split T6.out with ⟨p, hp, hch⟩ | ⟨rfl, b, vs, rfl, hvs, hsev⟩
      · have hn1 : ¬ ((1 : Int) < (ls.length : Int)) := by rw [hp]; simp
        have BA : Below w7.heap.size w7 (w7.alloc (.cells #[.pointer none] 57)) := (Below.refl _ _).alloc (Nat.le_refl _) _
        have AN := hid (As_none Ad _ p 12 ⟨w7.heap.size, 0, none⟩ (w7.alloc (.cells #[.pointer none] 57)) (HG.out.later (B6.out.trans (BA.mono B6.out.size))) (hch.move BA BA.size))
        have B8 := hid (B6.out.trans (BA.mono B6.out.size))
        clear hp hch BA c0 c1 c2
        go_wp2_with fail
        refine AN.out.mono ?_
        rintro e w8 ⟨rfl, hb8⟩
        have B9 := hid (B8.out.trans (hb8.mono B8.out.size))
        clear hb8 AN B8
        go_wp2_with fail
        refine (US.out _).mono ?_
        rintro e w10 ⟨rfl, rfl⟩
        go_wp2_with fail
        refine (E26.out _ _).mono ?_
        rintro e w11 ⟨rfl, rfl⟩
        go_wp2_with fail
        refine (UN.out _).mono ?_
        rintro e w12 ⟨rfl, rfl⟩
        go_wp2_with fail
        refine (E24.out _ _).mono ?_
        rintro e w13 ⟨rfl, rfl⟩
        go_wp2_with fail
        go_ret
        exact ⟨rfl, B9.out⟩
      · have hln : ls.length = vs.length := by rw [hvs]; simp
        have h2 := hsev.two
        have hn1 : (1 : Int) < (ls.length : Int) := by omega
        have AN := hid (as_found w7 ⟨b, 0, none⟩ (HG.out.later B6.out))
        have HV := hid hsev
        have HLN := hid hln.symm
        clear hvs hsev c0 c1 c2 hln h2
        go_wp2_with fail
        refine AN.out.mono ?_
        rintro e w8 ⟨rfl, hb8, c8⟩
        have B8 := hid (B6.out.trans (hb8.mono B6.out.size))
        have S8 := hid (HV.out.move hb8 hb8.size)
        have T8 := hid (T6.out.later hb8)
        have U8 := hid (unwraps_sev S8.out ls.length HLN.out)
        clear hb8 AN HV
        go_wp2_with fail
        refine U8.out.mono ?_
        rintro e w9 ⟨g9, k9, rfl, hg9, -, -, hk9, hb9⟩
        have B9 := hid (B8.out.trans (hb9.mono B8.out.size))
        have S9 := hid (S8.out.move hb9 hb9.size)
        have c9 := Below.seen hb9 (Nat.le_refl _) c8
        have U9 := hid (unwraps_sev S9.out ls.length HLN.out)
        have T9 := hid (T8.out.later hb9)
        clear hb9 U8 S8 T8 B8 c8 hg9 hk9
        go_wp2_with fail
        refine U9.out.mono ?_
        rintro e w10 ⟨g, k, rfl, hg, ⟨x, hx⟩, hf, hk, hb10⟩
        have hki : (ls.length : Int) ≤ (k : Int) := by omega
        have c10 := Below.seen hb10 (Nat.le_refl _) c9
        have BS := hid (hb10.setCell (p := ⟨g, 0, none⟩) hg .nilIface)
        have B11 := hid (B9.out.trans (BS.out.mono B9.out.size))
        have T11 := hid (T9.out.later BS.out)
        have C11 : Hid ((w10.setCell ⟨g, 0, none⟩ .nilIface).cell? ⟨w7.heap.size, 0, none⟩ = some (.pointer (some ⟨b, 0, none⟩))) := Below.seen BS.out (Nat.le_refl _) c9
        have LV := hid (leaves_any Ad _ ls 12 _ (HE.out.later B11.out) T11.out.tr (by omega) SM.out (by omega))
        clear hb10 U9 S9 T9 B9 c9 hg hk
        go_wp2_with fail
        refine LV.out.mono ?_
        rintro e w12 ⟨x12, rfl, ho12, hb12⟩
        obtain ⟨za, zc, rfl⟩ := own_slice ho12
        have c12 := Below.seen hb12 (Nat.le_refl _) C11.out
        have B12 := hid (B11.out.trans (hb12.mono B11.out.size))
        clear LV ho12 hb12 C11 T11 B11 BS hx hf c10
        go_wp2_with fail
        refine (E26.out _ _).mono ?_
        rintro e w13 ⟨rfl, rfl⟩
        go_wp2_with fail
        refine (US.out _).mono ?_
        rintro e w20 ⟨rfl, rfl⟩
        go_wp2_with fail
        refine (E26.out _ _).mono ?_
        rintro e w21 ⟨rfl, rfl⟩
        go_wp2_with fail
        refine (UN.out _).mono ?_
        rintro e w22 ⟨rfl, rfl⟩
        go_wp2_with fail
        refine (E24.out _ _).mono ?_
        rintro e w23 ⟨rfl, rfl⟩
        go_wp2_with fail
        go_ret
        exact ⟨rfl, B12.out⟩
end Go.Proofs.YthmiacpaefjanaaDoor
