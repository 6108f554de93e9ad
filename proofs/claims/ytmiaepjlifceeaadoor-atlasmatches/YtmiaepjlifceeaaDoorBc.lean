/- AtlasOnce: the walk. -/
import Derived.Test.YtmiaepjlifceeaaDoorBa
namespace Go.Proofs.YtmiaepjlifceeaaDoor
open Go.RowKit Go.Shelf Go.Maps
/-- The sets that were asked for, and their nodes. -/
structure On (w : World) (rb : Nat) (s : AS) (S : Nat → Prop) (nv : Value) (xs ts : List Nat) (wr : World) : Prop where
  kep : Kep w w.heap.size rb s S wr
  n : s.n = 16
  few : s.l.length ≤ xs.length + 1
  row : Ints w.heap.size wr nv xs
  out : ∀ k, nv.ownBlock = some k → ¬ S k
  node : ∀ (j x : Nat), xs[j]? = some x → ∃ t, ts[j]? = some t ∧ s.l[x]? = some (t % 65536)
section
variable {w : World} {rb : Nat} {s s' : AS} {S S' : Nat → Prop} {nv nv' : Value} {xs ts : List Nat} {wr w1 w2 : World} {t x : Nat}
theorem On.later (h : On w rb s S nv xs ts wr) (hb : Below wr.heap.size wr w1) : On w rb s S nv xs ts w1 := ⟨h.kep.later hb, h.n, h.few, h.row.later hb, h.out, h.node⟩
theorem On.mid (h : On w rb s S nv xs ts wr) (hs : St S wr w1 ∧ ∀ x, S' x → S x ∨ wr.heap.size ≤ x) : Ints w.heap.size w1 nv xs ∧ ∀ k, nv.ownBlock = some k → ¬ S' k :=
  ⟨h.row.kept hs.1 h.out, fun k hk e => by
    rcases hs.2 k e with e | e
    · exact h.out k hk e
    · have := (h.row.lt k hk).2; omega⟩
theorem On.next (h : On w rb s S nv xs ts wr) (ht : ts[xs.length]? = some t) (hm : Mv s s' x (t % 65536)) (hk : Kep w w.heap.size rb s' S' w1) (ho : ∀ k, nv.ownBlock = some k → ¬ S' k) (h1 : Ints w.heap.size w1 nv xs)
    (hi : Ints w.heap.size w2 nv' (xs ++ [x])) (st : St (fun x => nv.ownBlock = some x) w1 w2) (hat : nv'.ownBlock = nv.ownBlock ∨ ∃ x, nv'.ownBlock = some x ∧ w1.heap.size ≤ x) : On w rb s' S' nv' (xs ++ [x]) ts w2 := by
  refine ⟨⟨hk.atl.kept st fun k hS e => ho k e hS, hk.bel.trans (st.below (fun k e => (h1.lt k e).1) hk.bel.size), hk.base⟩, hm.n.trans h.n, ?_, hi, fun k e hS => ?_, fun j y hj => ?_⟩
  · have := hm.len; have := h.few; simp; omega
  · rcases hat with a | ⟨y, a, b⟩
    · exact ho k (a ▸ e) hS
    · rw [a] at e
      have := (hk.atl.lt k hS).2
      simp at e
      omega
  · by_cases hl : j < xs.length
    · rw [List.getElem?_append_left hl] at hj
      obtain ⟨t', h3, h4⟩ := h.node j y hj
      exact ⟨t', h3, hm.old h4⟩
    · have hj' : j = xs.length := by
        have := (List.getElem?_eq_some_iff.1 hj).1
        simp at this
        omega
      subst hj'
      simp at hj
      subst hj
      exact ⟨t, ht, hm.new⟩
end
theorem eq_iff_beq {a b c d : Nat} (h : a = b ↔ c = d) : (((a : Nat) : Int) == (b : Int)) = (((c : Nat) : Int) == (d : Int)) := by
  rw [Bool.eq_iff_iff, beq_iff_eq, beq_iff_eq]
  constructor
  · intro e; exact_mod_cast h.1 (by exact_mod_cast e)
  · intro e; exact_mod_cast h.2 (by exact_mod_cast e)
theorem beq_nat {a b : Nat} (h : a = b) : (((a : Nat) : Int) == (b : Int)) = true := by simp [h]
theorem beq_nat_not {a b : Nat} (h : ¬ a = b) : (((a : Nat) : Int) == (b : Int)) = false := by
  rw [beq_eq_false_iff_ne]; exact_mod_cast h
set_option maxHeartbeats 3200000 in
set_option maxRecDepth 100000 in
theorem once_law (w : World) (Ad : Nat → Addr) (hE : Env3 w Ad) (v : Value) (ts : List Nat) (hT : MRow w v ts) :
    Calls Tryd.prog 4 #[v] w fun e w' => e = .returned (.bool true) ∧ Below w.heap.size w w' := by
  have HT := hid hT
  obtain ⟨-, a, c, rfl, -⟩ := hT
  have AW := hid (awake_any w Ad hE)
  clear hE
  by_cases hbig : 100 < ts.length
  · have hbi : (100 : Int) < (ts.length : Int) := by omega
    go_enter Tryd.func4, Tryd.ntmps4
    go_wp2_with fail
    refine AW.out.mono ?_
    rintro e w1 ⟨rfl, b1⟩
    have NC := hid (kep_new b1)
    clear AW b1
    go_wp2_with fail
    refine NC.out.mono ?_
    rintro e w2 ⟨rb, S, rfl, K2⟩
    have BF := hid K2.out.bel
    clear NC
    go_wp2_with fail
    go_ret
    exact ⟨rfl, BF.out⟩
  · have hsmall : ts.length ≤ 100 := by omega
    have hsi : (ts.length : Int) ≤ 100 := by omega
    have hbi : ¬ (100 : Int) < (ts.length : Int) := by omega
    clear hbig
    go_enter Tryd.func4, Tryd.ntmps4
    go_wp2_with fail
    refine AW.out.mono ?_
    rintro e w1 ⟨rfl, b1⟩
    have NC := hid (kep_new b1)
    clear AW b1
    go_wp2_with fail
    refine NC.out.mono ?_
    rintro e w2 ⟨rb, S, rfl, K2⟩
    have ba := bAl w2 (.cells #[] 3)
    have O2 : Hid (On w rb ⟨16, [0]⟩ S (.slice (some ⟨w2.heap.size, 0, none⟩) 0 0) [] ts (w2.alloc (.cells #[] 3))) := by
      have i2 : Ints w.heap.size (w2.alloc (.cells #[] 3)) (.slice (some ⟨w2.heap.size, 0, none⟩) 0 0) [] := World.ownsRow_lit (base := w.heap.size) (e := 3) (size := 1) w2 #[] 0 K2.out.bel.size (Nat.zero_le _) rfl
      refine ⟨K2.out.later ba, rfl, Nat.le_refl _, i2, fun k hk hS => ?_, fun j x hj => by simp at hj⟩
      have := (K2.out.atl.lt k hS).2
      simp [Value.ownBlock] at hk
      omega
    clear NC K2 ba
    go_wp2_with fail
    go_loopg [5, 6, 7, 8] ts.length (fun gh nv i _ _ wr => ∃ k : Nat, k ≤ ts.length ∧ gh = ts.length - k ∧ i = .int .i64 (k : Int) ∧ ∃ (s : AS) (S : Nat → Prop) (xs : List Nat), xs.length = k ∧ Hid (On w rb s S nv xs ts wr))
    case atStart => exact ⟨0, Nat.zero_le _, rfl, rfl, _, S, [], rfl, O2.out⟩
    case round =>
      clear O2
      rename World => wr
      obtain ⟨k, hk, rfl, rfl, s, S, xs, hxl, HO⟩ := hrel
      by_cases hlt : k < ts.length
      · have hki : (k : Int) < (ts.length : Int) := by omega
        obtain ⟨t, ht⟩ := at_lt ts k hlt
        obtain ⟨b, o, rfl, d0⟩ : ∃ b o, a = some ⟨b, o, none⟩ ∧ wr.cell? ⟨b, o + k, none⟩ = some (.int .u32 (t : Int)) := by
          obtain ⟨-, a', c', hv, hl⟩ := HT.out
          obtain ⟨rfl, rfl⟩ : a = a' ∧ c = c' := by simpa using hv
          rcases hl with h | ⟨b, o, h4, h5⟩
          · rw [h] at hlt; simp at hlt
          · exact ⟨b, o, h4, seen HO.out.kep.bel (Nat.le_refl _) (h5 k t ht)⟩
        have ha := and16 t (HT.out.1 t (List.mem_of_getElem? ht))
        have TX : Hid (ts[xs.length]? = some t) := by show _ = _; rw [hxl]; exact ht
        have A2 := hid (kep_at HO.out.kep (t % 65536) (by rw [HO.out.n]; exact Nat.mod_lt _ (by decide)))
        have hul : xs.length ≤ 100000 := by omega
        have HXL := hid hxl
        clear ht hxl
        generalize ht' : t % 65536 = t' at *
        have HT' := hid ht'
        clear ht'
        go_wp2_with fail
        refine A2.out.mono ?_
        rintro e w3 ⟨x, s', S', rfl, M3, K3, ST3⟩
        obtain ⟨i3, o3⟩ := HO.out.mid ST3.out
        have I3 := hid i3
        have OO3 := hid o3
        obtain ⟨na, nc, rfl⟩ := i3.slice
        have hw3 : w.heap.size ≤ w3.heap.size := K3.out.bel.size
        clear A2 i3 o3 d0 ha
        go_wp2_with (at_builtin; refine wpList_num rfl _ _ rfl I3.out hul hw3 rfl rfl ?_; intro v' w4 ho hst hat)
        have O4 : Hid (On w rb s' S' v' (xs ++ [x]) ts w4) := HO.out.next TX.out (by rw [HT'.out]; exact M3.out) K3.out OO3.out I3.out ho.out hst.out hat.out
        go_roundg (ts.length - (k + 1))
        case measure => omega
        case rel => exact ⟨k + 1, by omega, rfl, by go_num, s', S', xs ++ [x], by simp; exact HXL.out, O4.out⟩
      · have hki : ¬ ((k : Int) < (ts.length : Int)) := by omega
        have hxt : Hid (xs.length = ts.length) := by show _ = _; omega
        have hxi : (xs.length : Int) ≤ 100 := by omega
        obtain ⟨na, nc, rfl⟩ := HO.out.row.slice
        clear hk hxl
        go_wp2_with fail
        go_loopg [9, 10, 11, 12] xs.length (fun gh i _ _ _ wz => ∃ q : Nat, q ≤ xs.length ∧ gh = xs.length - q ∧ i = .int .i64 (q : Int) ∧ Hid (Below wr.heap.size wr wz))
        case atStart => exact ⟨0, Nat.zero_le _, rfl, rfl, Below.refl _ _⟩
        case round =>
          rename World => wz
          obtain ⟨q, hq, rfl, rfl, HB⟩ := hrel
          have OZ := hid (HO.out.later HB.out)
          by_cases hql : q < xs.length
          · have hqi : (q : Int) < (xs.length : Int) := by omega
            obtain ⟨x, hx⟩ := at_lt xs q hql
            obtain ⟨t, ht, hn⟩ := OZ.out.node q x hx
            obtain ⟨g, rfl, -, -⟩ := OZ.out.row.some (by omega)
            have d0 := OZ.out.row.cell hx
            have t32 := HT.out.1 t (List.mem_of_getElem? ht)
            obtain ⟨b, o, rfl, hc⟩ : ∃ b o, a = some ⟨b, o, none⟩ ∧ ∀ W', Below w.heap.size w W' → ∀ (j : Nat) x, ts[j]? = some x → W'.cell? ⟨b, o + j, none⟩ = some (.int .u32 (x : Int)) := by
              obtain ⟨-, a', c', hv, hl⟩ := HT.out
              obtain ⟨rfl, rfl⟩ : a = a' ∧ c = c' := by simpa using hv
              rcases hl with h | ⟨b, o, h4, h5⟩
              · rw [h] at ht; simp at ht
              · exact ⟨b, o, h4, fun W' hb j x hj => seen hb (Nat.le_refl _) (h5 j x hj)⟩
            have HC := hid hc
            have d1 := hc wz OZ.out.kep.bel q t ht
            have ha := and16 t t32
            have MK := hid (mask_some OZ.out.kep.atl x (t % 65536) hn)
            have HN := hid hn
            have HX := hid hx
            have hqt : (q : Int) < (ts.length : Int) := by have := hxt.out; omega
            generalize t % 65536 = t' at *
            clear hc hx ht hn t32
            go_wp2_with fail
            refine MK.out.mono ?_
            rintro e w5 ⟨rfl, rfl⟩
            clear MK
            go_wp2_with fail
            go_loopg [12] q (fun gh i wy => ∃ p : Nat, p ≤ q ∧ gh = q - p ∧ i = .int .i64 (p : Int) ∧ Hid (Below w5.heap.size w5 wy))
            case atStart => exact ⟨0, Nat.zero_le _, rfl, rfl, Below.refl _ _⟩
            case round =>
              rename World => wy
              obtain ⟨p, hp, rfl, rfl, HY⟩ := hrel
              by_cases hpl : p < q
              · have hpi : (p : Int) < (q : Int) := by omega
                have OY := hid (OZ.out.later HY.out)
                obtain ⟨x2, hx2⟩ := at_lt xs p (by omega)
                obtain ⟨t2, ht2, hn2⟩ := OY.out.node p x2 hx2
                have f0 := OY.out.row.cell HX.out
                have f1 := OY.out.row.cell hx2
                have f2 := seen HY.out (Nat.le_refl _) d1
                have f3 := HC.out wy OY.out.kep.bel p t2 ht2
                have ha2 := and16 t2 (HT.out.1 t2 (List.mem_of_getElem? ht2))
                have hpt : (p : Int) < (ts.length : Int) := by omega
                have hpx : (p : Int) < (xs.length : Int) := by omega
                have EQ : Hid (x = x2 ↔ t' = t2 % 65536) := by
                  constructor
                  · rintro rfl
                    have := HN.out.symm.trans hn2
                    simpa using this
                  · rintro rfl
                    exact OY.out.kep.one HN.out hn2
                generalize t2 % 65536 = t2' at *
                clear hx2 ht2 hn2 d0 d1
                by_cases hxx : x = x2
                · have q1 := beq_nat hxx
                  have q2 := beq_nat (EQ.out.1 hxx)
                  clear hxx EQ
                  go_wp2_with fail
                  go_quiet (fail)
                  go_wp2_with fail
                  go_roundg (q - (p + 1))
                  case measure => omega
                  case rel => exact ⟨p + 1, by omega, rfl, by go_num, HY.out.trans ((drewN_below _ _).mono HY.out.size)⟩
                · have q1 := beq_nat_not hxx
                  have q2 := beq_nat_not (fun e => hxx (EQ.out.2 e))
                  clear hxx EQ
                  go_wp2_with fail
                  go_quiet (fail)
                  go_wp2_with fail
                  go_roundg (q - (p + 1))
                  case measure => omega
                  case rel => exact ⟨p + 1, by omega, rfl, by go_num, HY.out.trans ((drewN_below _ _).mono HY.out.size)⟩
              · have hpi : ¬ ((p : Int) < (q : Int)) := by omega
                go_wp2_with fail
                go_roundg (xs.length - (q + 1))
                case measure => omega
                case rel => exact ⟨q + 1, by omega, rfl, by go_num, HB.out.trans (HY.out.mono HB.out.size)⟩
          · have hqi : ¬ ((q : Int) < (xs.length : Int)) := by omega
            have LN := hid (atl_len OZ.out.kep.atl)
            have hle : (s.l.length : Int) ≤ (ts.length : Int) + 1 := by have := OZ.out.few; have := hxt.out; omega
            have BF := hid OZ.out.kep.bel
            go_wp2_with fail
            refine LN.out.mono ?_
            rintro e w5 ⟨rfl, rfl⟩
            clear LN
            go_wp2_with fail
            go_ret
            exact ⟨rfl, BF.out⟩
end Go.Proofs.YtmiaepjlifceeaaDoor
