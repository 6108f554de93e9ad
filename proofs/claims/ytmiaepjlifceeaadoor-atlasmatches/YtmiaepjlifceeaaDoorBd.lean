/- AtlasMatches: the walk. -/
import Derived.Test.YtmiaepjlifceeaaDoorBc
namespace Go.Proofs.YtmiaepjlifceeaaDoor
open Go.RowKit Go.Shelf Go.Maps
theorem mtc_pre (l : List Nat) (a b : Nat) {k : Nat} : ∀ {k' : Nat}, k ≤ k' → mtc l a b k <+: mtc l a b k'
  | 0, h => by rw [show k = 0 by omega]; exact List.prefix_refl _
  | k' + 1, h => by
    by_cases e : k = k' + 1
    · rw [e]; exact List.prefix_refl _
    · refine (mtc_pre l a b (show k ≤ k' by omega)).trans ?_
      rw [show mtc l a b (k' + 1) = (match l[k']? with | some m => if mtB a b m = true then mtc l a b k' ++ [k'] else mtc l a b k' | none => mtc l a b k') from rfl]
      split
      · split
        · exact List.prefix_append _ _
        · exact List.prefix_refl _
      · exact List.prefix_refl _
theorem mtc_hit {l : List Nat} {a b k m : Nat} (h : l[k]? = some m) (hm : mtB a b m = true) : (mtc l a b l.length)[(mtc l a b k).length]? = some k := by
  have hl := (List.getElem?_eq_some_iff.1 h).1
  obtain ⟨t, ht⟩ := mtc_pre l a b (show k + 1 ≤ l.length by omega)
  rw [mtc_next a b h, if_pos hm] at ht
  rw [← ht]
  simp
theorem mtB_none (m : Nat) : mtB 0 0 m = true := by
  unfold mtB an
  simp
theorem mtc_all (l : List Nat) : ∀ k, k ≤ l.length → (mtc l 0 0 k).length = k
  | 0, _ => rfl
  | k + 1, h => by
    rw [mtc_next 0 0 (List.getElem?_eq_getElem (show k < l.length by omega)), if_pos (mtB_none _)]
    simp [mtc_all l k (by omega)]
set_option maxHeartbeats 3200000 in
set_option maxRecDepth 100000 in
theorem matches_law (w : World) (Ad : Nat → Addr) (hE : Env3 w Ad) (v : Value) (ts : List Nat) (hT : MRow w v ts) (x y : Nat) (hx : x < 4294967296) (hy : y < 4294967296) :
    Calls Tryd.prog 7 #[v, .int .u32 (x : Int), .int .u32 (y : Int)] w fun e w' => e = .returned (.bool true) ∧ Below w.heap.size w w' := by
  have HT := hid hT
  obtain ⟨-, a, c, rfl, -⟩ := hT
  have AW := hid (awake_any w Ad hE)
  have X32 := hid hx
  have Y32 := hid hy
  clear hE hx hy
  by_cases hbig : 60 < ts.length
  · have hbi : (60 : Int) < (ts.length : Int) := by omega
    go_enter Tryd.func7, Tryd.ntmps7
    go_wp2_with fail
    refine AW.out.mono ?_
    rintro e w1 ⟨rfl, b1⟩
    have NC := hid (kep_new b1)
    clear AW b1
    go_wp2_with fail
    refine NC.out.mono ?_
    rintro e w2 ⟨rb, S, rfl, K2⟩
    have BF := hid K2.out.bel
    clear NC
    go_wp2_with fail
    go_ret
    exact ⟨rfl, BF.out⟩
  · have hsi : (ts.length : Int) ≤ 60 := by omega
    have hbi : ¬ (60 : Int) < (ts.length : Int) := by omega
    clear hbig
    go_enter Tryd.func7, Tryd.ntmps7
    go_wp2_with fail
    refine AW.out.mono ?_
    rintro e w1 ⟨rfl, b1⟩
    have NC := hid (kep_new b1)
    clear AW b1
    go_wp2_with fail
    refine NC.out.mono ?_
    rintro e w2 ⟨rb, S, rfl, K2⟩
    clear NC
    go_wp2_with fail
    go_loopg [9] ts.length (fun gh i wr => ∃ k : Nat, k ≤ ts.length ∧ gh = ts.length - k ∧ i = .int .i64 (k : Int) ∧ ∃ (s : AS) (S : Nat → Prop), Hid (s.n = 16) ∧ Hid (Kep w w.heap.size rb s S wr))
    case atStart => exact ⟨0, Nat.zero_le _, rfl, rfl, ⟨16, [0]⟩, S, rfl, K2.out⟩
    case round =>
      clear K2
      rename World => wr
      obtain ⟨k, hk, rfl, rfl, s, S, HN, HK⟩ := hrel
      by_cases hlt : k < ts.length
      · have hki : (k : Int) < (ts.length : Int) := by omega
        obtain ⟨t, ht⟩ := at_lt ts k hlt
        obtain ⟨b, o, rfl, d0⟩ : ∃ b o, a = some ⟨b, o, none⟩ ∧ wr.cell? ⟨b, o + k, none⟩ = some (.int .u32 (t : Int)) := by
          obtain ⟨-, a', c', hv, hl⟩ := HT.out
          obtain ⟨rfl, rfl⟩ : a = a' ∧ c = c' := by simpa using hv
          rcases hl with h | ⟨b, o, h4, h5⟩
          · rw [h] at hlt; simp at hlt
          · exact ⟨b, o, h4, seen HK.out.bel (Nat.le_refl _) (h5 k t ht)⟩
        have ha := and16 t (HT.out.1 t (List.mem_of_getElem? ht))
        have A2 := hid (kep_at HK.out (t % 65536) (by rw [HN.out]; exact Nat.mod_lt _ (by decide)))
        generalize t % 65536 = t' at *
        clear ht
        go_wp2_with fail
        refine A2.out.mono ?_
        rintro e w3 ⟨z, s', S', rfl, M3, K3, -⟩
        have N3 : Hid (s'.n = 16) := M3.out.n.trans HN.out
        clear A2 d0 ha
        go_wp2_with fail
        go_roundg (ts.length - (k + 1))
        case measure => omega
        case rel => exact ⟨k + 1, by omega, rfl, by go_num, s', S', N3.out, K3.out⟩
      · have hki : ¬ ((k : Int) < (ts.length : Int)) := by omega
        have MA := hid (match_any HK.out.atl x y X32.out Y32.out)
        have hsm := HK.out.atl.ok.small
        have hsmi : (s.l.length : Int) ≤ 65536 := by omega
        clear hk hlt
        go_wp2_with fail
        refine MA.out.mono ?_
        rintro e w4 ⟨lv, rfl, i4, b4⟩
        obtain ⟨la, lc, rfl⟩ := i4.slice
        have I4 := hid i4
        have K4 := hid (HK.out.later b4)
        have hml := mtc_len s.l x y s.l.length
        have hmli : ((mtc s.l x y s.l.length).length : Int) ≤ 65536 := by omega
        clear MA i4 b4
        go_wp2_with fail
        go_loopg [11, 12, 13, 14] s.l.length (fun gh at' n _ _ wz => ∃ q : Nat, q ≤ s.l.length ∧ gh = s.l.length - q ∧ n = .int .i64 (q : Int) ∧ at' = .int .i64 ((mtc s.l x y q).length : Int) ∧ Hid (Below w4.heap.size w4 wz))
        case atStart => exact ⟨0, Nat.zero_le _, rfl, rfl, rfl, Below.refl _ _⟩
        case round =>
          rename World => wz
          obtain ⟨q, hq, rfl, rfl, rfl, HB⟩ := hrel
          have KZ := hid (K4.out.later HB.out)
          have LN := hid (atl_len KZ.out.atl)
          have hqm := mtc_len s.l x y q
          by_cases hql : q < s.l.length
          · have hqi : (q : Int) < (s.l.length : Int) := by omega
            obtain ⟨m, hm⟩ := at_lt s.l q hql
            have MK := hid (mask_some KZ.out.atl q m hm)
            have m32 := (KZ.out.atl.u32 hm).2
            have e1 := hid (bits_an32 x m X32.out m32)
            have e2 := hid (bits_and32 m y m32 Y32.out)
            have NX := hid (mtc_next x y hm)
            have HIT := hid (fun h => mtc_hit (a := x) (b := y) hm h)
            clear hm m32
            by_cases h1 : an x m = 0
            · have q1 : bits .andNot .u32 (x : Int) (m : Int) = 0 := by rw [e1.out, h1]; rfl
              by_cases h2 : m &&& y = 0
              · have q2 : bits .and .u32 (m : Int) (y : Int) = 0 := by rw [e2.out, h2]; rfl
                have hB : mtB x y m = true := by unfold mtB; rw [decide_eq_true h1, decide_eq_true h2]; rfl
                have hit := HIT.out hB
                have N1 : Hid ((mtc s.l x y (q + 1)).length = (mtc s.l x y q).length + 1) := by show _ = _; rw [NX.out, if_pos hB]; simp
                have hl1 := (List.getElem?_eq_some_iff.1 hit).1
                have hli : ((mtc s.l x y q).length : Int) < ((mtc s.l x y s.l.length).length : Int) := by omega
                obtain ⟨g, rfl, -, -⟩ := I4.out.some (by omega)
                have d0 := (I4.out.later HB.out).cell hit
                generalize hz : (mtc s.l x y q).length = z at *
                have HZ := hid hz
                clear hz hit hB h1 h2 e1 e2 NX HIT hl1
                go_wp2_with fail
                refine LN.out.mono ?_
                rintro e w5 ⟨rfl, rfl⟩
                go_wp2_with fail
                refine MK.out.mono ?_
                rintro e w6 ⟨rfl, rfl⟩
                clear LN MK
                go_wp2_with fail
                go_roundg (s.l.length - (q + 1))
                case measure => omega
                case rel => exact ⟨q + 1, by omega, rfl, by go_num, by rw [N1.out]; go_num, HB.out⟩
              · have q2 : (bits .and .u32 (m : Int) (y : Int) == 0) = false := by rw [e2.out, cast_beq0]; exact decide_eq_false h2
                have N1 : Hid (mtc s.l x y (q + 1) = mtc s.l x y q) := by show _ = _; rw [NX.out, if_neg (by unfold mtB; rw [decide_eq_false h2, Bool.and_false]; decide)]
                clear h1 h2 e1 e2 NX HIT
                go_wp2_with fail
                refine LN.out.mono ?_
                rintro e w5 ⟨rfl, rfl⟩
                go_wp2_with fail
                refine MK.out.mono ?_
                rintro e w6 ⟨rfl, rfl⟩
                clear LN MK
                go_wp2_with fail
                go_roundg (s.l.length - (q + 1))
                case measure => omega
                case rel => exact ⟨q + 1, by omega, rfl, by go_num, by rw [N1.out], HB.out⟩
            · have q1 : (bits .andNot .u32 (x : Int) (m : Int) == 0) = false := by rw [e1.out, cast_beq0]; exact decide_eq_false h1
              have N1 : Hid (mtc s.l x y (q + 1) = mtc s.l x y q) := by show _ = _; rw [NX.out, if_neg (by unfold mtB; rw [decide_eq_false h1, Bool.false_and]; decide)]
              clear h1 e1 e2 NX HIT
              go_wp2_with fail
              refine LN.out.mono ?_
              rintro e w5 ⟨rfl, rfl⟩
              go_wp2_with fail
              refine MK.out.mono ?_
              rintro e w6 ⟨rfl, rfl⟩
              clear LN MK
              go_wp2_with fail
              go_roundg (s.l.length - (q + 1))
              case measure => omega
              case rel => exact ⟨q + 1, by omega, rfl, by go_num, by rw [N1.out], HB.out⟩
          · obtain rfl : q = s.l.length := by omega
            have hqi : ¬ ((s.l.length : Int) < (s.l.length : Int)) := by omega
            have MM : Hid (Calls Tryd.prog 20 #[.pointer (some ⟨rb, 0, none⟩), .int .u32 0, .int .u32 0] wz fun e W' => ∃ v, e = .returned v ∧ Ints wz.heap.size W' v (mtc s.l 0 0 s.l.length) ∧ Below wz.heap.size wz W') := match_any KZ.out.atl 0 0 (by decide) (by decide)
            have AL := hid (mtc_all s.l s.l.length (Nat.le_refl _))
            go_wp2_with fail
            refine LN.out.mono ?_
            rintro e w5 ⟨rfl, rfl⟩
            go_wp2_with fail
            refine MM.out.mono ?_
            rintro e w6 ⟨mv, rfl, i6, b6⟩
            obtain ⟨ma, mc, rfl⟩ := i6.slice
            rw [AL.out]
            have LN6 := hid (atl_len (KZ.out.later b6).atl)
            have BF := hid (KZ.out.later b6).bel
            clear LN MM i6 b6
            go_wp2_with fail
            refine LN6.out.mono ?_
            rintro e w7 ⟨rfl, rfl⟩
            clear LN6
            go_wp2_with fail
            go_ret
            exact ⟨rfl, BF.out⟩
end Go.Proofs.YtmiaepjlifceeaaDoor
