/- BadgeOnce: the walk. -/
import Derived.Test.YtagjmggiaffihabDoorBdBq
import Derived.Test.YtagjmggiaffihabDoorBdZp
namespace Go.Proofs.YtagjmggiaffihabDoor.Bd
open Go.RowKit Go.Shelf Go.Maps
set_option maxHeartbeats 25600000 in
set_option maxRecDepth 100000 in
theorem once_law (w : World) (Ad : Nat → Addr) (hE : Env5 w Ad) (av : Value) (cl : List ActI) (hC : ActRow w av cl) :
    Calls Tryd.prog 3 #[av] w fun e w' => e = .returned (.bool true) ∧ Below w.heap.size w w' := by
  have HC := hid hC
  have HE := hid hE
  obtain ⟨ca, cc, rfl, -, -⟩ := hC
  have AW := hid (awake_any Ad w hE)
  clear hE
  go_enter Tryd.func3, Tryd.ntmps3
  go_wp2_with fail
  refine AW.out.mono ?_
  rintro e w1 ⟨rfl, b1⟩
  have B1 := hid b1
  have E1 := hid (HE.out.later b1)
  have NW := hid (new_any w1)
  clear AW b1
  go_wp2_with fail
  refine NW.out.mono ?_
  rintro e w2 ⟨bb, ob, nb, rfl, h2, b2⟩
  have A2 : Hid (Bw w1 bb ob nb 1 [] [] w2) := ⟨h2, b2, fun x hx => by simp at hx⟩
  clear NW h2 b2
  go_wp2_with fail
  go_loopg [4, 5, 6, 7, 8, 9, 10, 11] 200 (fun gh i _ _ _ _ _ _ _ wr => ∃ q : Nat, q ≤ 200 ∧ gh = 200 - q ∧ i = .int .i64 (q : Int) ∧ ∃ (n : Int) (l : Prs), Hid (Bw w1 bb ob nb n l [] wr))
  case atStart => exact ⟨0, Nat.zero_le _, rfl, rfl, 1, [], A2.out⟩
  case round =>
    clear A2
    rename World => wz
    obtain ⟨q, hq, rfl, rfl, n0, l0, HA⟩ := hrel
    have BR := hid (B1.out.trans (HA.out.bel.mono B1.out.size))
    have hqi : (q : Int) ≤ 200 := by omega
    by_cases hc : q < cl.length ∧ q < 200
    · obtain ⟨h1, h2⟩ := hc
      have h1i : (q : Int) < (cl.length : Int) := by omega
      have h2i : (q : Int) < 200 := by omega
      obtain ⟨x, hx⟩ := at_lt cl q h1
      have hwf : x.wf := by
        obtain ⟨_, _, _, q2, _⟩ := HC.out
        exact q2 x (List.mem_of_getElem? hx)
      obtain ⟨b, o, rfl, c0, c1, c2, c3⟩ : ∃ b o, ca = some ⟨b, o, none⟩ ∧ wz.cell? ⟨b, o + q * 4, none⟩ = some (.int .i64 x.kind) ∧ wz.cell? ⟨b, o + q * 4 + 1, none⟩ = some (.int .i64 x.i) ∧ wz.cell? ⟨b, o + q * 4 + 2, none⟩ = some (.int .i64 x.g) ∧ wz.cell? ⟨b, o + q * 4 + 3, none⟩ = some (.int .i64 x.n) := by
        obtain ⟨a', c', hv, -, hl⟩ := HC.out.later BR.out
        obtain ⟨rfl, rfl⟩ : ca = a' ∧ cc = c' := by simpa using hv
        rcases hl with h | ⟨b, o, h4, h5⟩
        · rw [h] at h1; simp at h1
        · exact ⟨b, o, h4, h5 q x hx⟩
      obtain ⟨w4, hw4⟩ : ∃ w4, w4 = wz.alloc (.cells #[.int .i64 x.kind, .int .i64 x.i, .int .i64 x.g, .int .i64 x.n] 29) := ⟨_, rfl⟩
      have A4 := hid (HA.out.alloc #[.int .i64 x.kind, .int .i64 x.i, .int .i64 x.g, .int .i64 x.n] 29)
      rw [← hw4] at A4
      have HW4 := hid hw4
      have hb4 : w4.heap[wz.heap.size]? = some (.cells #[.int .i64 x.kind, .int .i64 x.i, .int .i64 x.g, .int .i64 x.n] 29 (0, 0)) := A4.out.at (List.mem_cons_self ..)
      have y0 : w4.cell? ⟨wz.heap.size, 0, none⟩ = some (.int .i64 x.kind) := cell_blk hb4 rfl
      have y1 : w4.cell? ⟨wz.heap.size, 1, none⟩ = some (.int .i64 x.i) := cell_blk hb4 rfl
      have y2 : w4.cell? ⟨wz.heap.size, 2, none⟩ = some (.int .i64 x.g) := cell_blk hb4 rfl
      have y3 : w4.cell? ⟨wz.heap.size, 3, none⟩ = some (.int .i64 x.n) := cell_blk hb4 rfl
      have HWF := hid hwf
      clear hx hw4 hb4 HA hwf
      go_upto_region 8 with fail
      rw [← HW4.out]
      clear c0 c1 c2 c3 HW4
      by_cases hk1 : x.kind = 1
      · rw [hk1] at y0
        have CC := hid (any_give A4.out E1.out x.i x.g HWF.out.2.1 HWF.out.2.2.1)
        clear hk1
        go_wp2_with fail
        refine CC.out.mono ?_
        rintro e w6 ⟨u6, r6, rfl, n, l, hB6⟩
        have HB6 := hid (hB6.few (fr' := []) fun x hx => by simp at hx)
        clear CC hB6 y0 y1 y2 y3 A4
        have LS := hid (list_any HB6.out.bg)
        go_wp2_with fail
        refine LS.out.mono ?_
        rintro e w7 ⟨v7, rfl, hr7, hb7⟩
        have hr7' : w7.ownsRow w6.heap.size 3 1 v7 (ids l).length ((ids l).map Go.encZ) := by rw [show (ids l).length = l.length by simp [ids]]; exact hr7
        have I7 := hid (irow_of hr7')
        have hidl : (ids l).length = l.length := by simp [ids]
        obtain ⟨la, lc, rfl⟩ : ∃ la lc, v7 = .slice la l.length lc := by
          obtain ⟨la, lc, q1, -⟩ := I7.out
          exact ⟨la, lc, by rw [← hidl]; exact q1⟩
        have A7 := hid (HB6.out.later hb7)
        have LN := hid (len_any A7.out.bg)
        have hfew := A7.out.bg.ok.few
        have hfewi : (l.length : Int) ≤ 1073741824 := by omega
        have CELL : Hid (∀ W' (j : Nat) y, Below w7.heap.size w7 W' → l[j]? = some y → ∃ b o, la = some ⟨b, o, none⟩ ∧ W'.cell? ⟨b, o + j, none⟩ = some (.int .i64 y.1)) := fun W' j y hb hy => by
          obtain ⟨a2, c2, q1, q2⟩ := I7.out.later hb
          have hlt := (List.getElem?_eq_some_iff.1 hy).1
          rw [hidl] at q1
          obtain ⟨rfl, rfl⟩ : la = a2 ∧ lc = c2 := by simpa using q1
          rcases q2 with q2 | ⟨b, o, q2, q3⟩
          · have : l.length = 0 := by rw [← hidl, q2]; rfl
            omega
          · exact ⟨b, o, q2, q3 j y.1 (by unfold ids; rw [List.getElem?_map, hy]; rfl)⟩
        clear LS hr7 hr7' hb7 I7 hidl
        go_wp2_with fail
        refine LN.out.mono ?_
        rintro e w' ⟨rfl, hw'⟩
        obtain rfl := hw'.symm
        clear LN
        go_wp2_with fail
        go_loopg [7, 8, 9, 10, 11] l.length (fun gh i _ _ _ _ wr => ∃ k : Nat, k ≤ l.length ∧ gh = l.length - k ∧ i = .int .i64 (k : Int) ∧ Hid (Below w7.heap.size w7 wr))
        case atStart => exact ⟨0, Nat.zero_le _, rfl, rfl, Below.refl _ _⟩
        case round =>
          rename World => wk
          obtain ⟨k, hk, rfl, rfl, HK⟩ := hrel
          have AK := hid (A7.out.later HK.out)
          by_cases hlt : k < l.length
          · have hki : (k : Int) < (l.length : Int) := by omega
            obtain ⟨y, hy⟩ := at_lt l k hlt
            have hym := List.mem_of_getElem? hy
            obtain ⟨yd, yi, yg⟩ := y
            have hlow := AK.out.bg.ok.low _ hym
            have hnx := AK.out.bg.ok.next
            have hI := AK.out.bg.ok.i64 _ hym
            have hwho : who l yd = some (yi, yg) := (AK.out.bg.ok.who yd (yi, yg)).2 hym
            have hnum : num l (yi, yg) = some yd := (AK.out.bg.ok.num yd (yi, yg)).2 hym
            have hlow1 : 1 ≤ yd := hlow.1
            have hlow2 : yd < n := hlow.2
            have hl1 : ¬ yd < 1 := by omega
            have hl2 : ¬ yd ≥ n := by omega
            obtain ⟨b, o, rfl, d0⟩ := CELL.out wk k _ HK.out hy
            have d0 : wk.cell? ⟨b, o + k, none⟩ = some (.int .i64 yd) := d0
            have EN : Hid (Calls Tryd.prog 14 #[.pointer (some ⟨bb, 0, none⟩), .int .i64 yd] wk fun e W' => e = .returned (.tuple #[.agg #[.int .i64 yi, .int .i64 yg], .bool true]) ∧ Below wk.heap.size wk W') := by
              have := ent_any AK.out.bg yd (I64_mid (by omega) (by omega))
              rw [hwho] at this
              exact this
            have IDC : Hid (∀ W', Below w7.heap.size w7 W' → Calls Tryd.prog 15 #[.pointer (some ⟨bb, 0, none⟩), .agg #[.int .i64 yi, .int .i64 yg]] W' fun e w' => e = .returned (.tuple #[.int .i64 yd, .bool true]) ∧ Below W'.heap.size W' w') := fun W' hb => by
              have := id_any (A7.out.later hb).bg yi yg hI.1 hI.2
              rw [hnum] at this
              exact this
            have HY := hid hy
            clear hym hlow hI hwho hnum hy hlt
            go_wp2_with fail
            refine EN.out.mono ?_
            rintro e w8 ⟨rfl, hb8⟩
            obtain ⟨w9, hw9⟩ : ∃ w9, w9 = w8.alloc (.cells #[.int .i64 yi, .int .i64 yg] 27) := ⟨_, rfl⟩
            have b9 : Below w8.heap.size w8 w9 := by rw [hw9]; exact bAl _ _
            have r9 : w9.heap[w8.heap.size]? = some (.cells #[.int .i64 yi, .int .i64 yg] 27 (0, 0)) := by rw [hw9]; exact heap_alloc_new w8 _
            have x0 : w9.cell? ⟨w8.heap.size, 0, none⟩ = some (.int .i64 yi) := cell_blk r9 rfl
            have x1 : w9.cell? ⟨w8.heap.size, 1, none⟩ = some (.int .i64 yg) := cell_blk r9 rfl
            have B9 := hid ((HK.out.trans (hb8.mono HK.out.size)).trans (b9.mono (Nat.le_trans HK.out.size hb8.size)))
            have HW9 := hid hw9
            have ID9 := hid (IDC.out w9 B9.out)
            clear EN hb8 hw9 b9 r9 d0 IDC
            go_upto_region 23 with fail
            rw [← HW9.out]
            go_wp2_with fail
            refine ID9.out.mono ?_
            rintro e w10 ⟨rfl, hb10⟩
            have B10 := hid (B9.out.trans (hb10.mono B9.out.size))
            obtain ⟨b', o', hbo, d0⟩ := CELL.out w10 k _ B10.out HY.out
            obtain ⟨rfl, rfl⟩ : b = b' ∧ o = o' := by simpa using hbo
            have d0 : w10.cell? ⟨b, o + k, none⟩ = some (.int .i64 yd) := d0
            have NX := hid (next_any (A7.out.later B10.out).bg)
            clear ID9 hb10 x0 x1 hbo
            by_cases hk0 : k = 0
            · subst hk0
              have d00 : w10.cell? ⟨b, o, none⟩ = some (.int .i64 yd) := d0
              have hk0i : ¬ (((0 : Nat) : Int) > 0) := by omega
              go_wp2_with fail
              refine NX.out.mono ?_
              rintro e w' ⟨rfl, hw'⟩
              obtain rfl := hw'.symm
              clear NX
              go_wp2_with fail
              go_roundg (l.length - (0 + 1))
              case measure => omega
              case rel => exact ⟨0 + 1, by omega, rfl, by go_num, B10.out⟩
            · have hk0i : (k : Int) > 0 := by omega
              obtain ⟨z, hz⟩ := at_lt l (k - 1) (by omega)
              have hrise : z.1 < yd := by
                have := List.pairwise_iff_getElem.1 A7.out.bg.ok.rise (k - 1) k (by omega) (by omega) (by omega)
                rw [(List.getElem?_eq_some_iff.1 hz).2, (List.getElem?_eq_some_iff.1 HY.out).2] at this
                exact this
              have hrn : ¬ z.1 ≥ yd := by omega
              obtain ⟨b', o', hbo, d1⟩ := CELL.out w10 (k - 1) z B10.out hz
              obtain ⟨rfl, rfl⟩ : b = b' ∧ o = o' := by simpa using hbo
              have e1 : IntKind.i64.wrap ((k : Int) - 1) = ((k - 1 : Nat) : Int) := by rw [show ((k : Int) - 1) = ((k - 1 : Nat) : Int) by omega]; exact wrap_mid (by omega) (by omega)
              have e2 : ((k - 1 : Nat) : Int) < (l.length : Int) := by omega
              obtain ⟨k1, hk1⟩ : ∃ k1, k1 = k - 1 := ⟨_, rfl⟩
              rw [← hk1] at d1 e1 e2
              generalize z.1 = zd at *
              clear hbo hz hk1 hrise
              go_wp2_with fail
              refine NX.out.mono ?_
              rintro e w' ⟨rfl, hw'⟩
              obtain rfl := hw'.symm
              clear NX
              go_wp2_with fail
              go_roundg (l.length - (k + 1))
              case measure => omega
              case rel => exact ⟨k + 1, by omega, rfl, by go_num, B10.out⟩
          · have hki : ¬ (k : Int) < (l.length : Int) := by omega
            clear hk hlt CELL
            go_wp2_with fail
            go_roundg (200 - (q + 1))
            case measure => omega
            case rel => exact ⟨q + 1, by omega, rfl, by go_num, n, l, AK.out⟩
      by_cases hk2 : x.kind = 2
      · rw [hk2] at y0
        have CC := hid (any_pin A4.out E1.out x.n x.i x.g HWF.out.2.2.2 HWF.out.2.1 HWF.out.2.2.1)
        clear hk2
        go_wp2_with fail
        refine CC.out.mono ?_
        rintro e w6 ⟨r6, rfl, n, l, hB6⟩
        have HB6 := hid (hB6.few (fr' := []) fun x hx => by simp at hx)
        clear CC hB6 y0 y1 y2 y3 A4
        have LS := hid (list_any HB6.out.bg)
        go_wp2_with fail
        refine LS.out.mono ?_
        rintro e w7 ⟨v7, rfl, hr7, hb7⟩
        have hr7' : w7.ownsRow w6.heap.size 3 1 v7 (ids l).length ((ids l).map Go.encZ) := by rw [show (ids l).length = l.length by simp [ids]]; exact hr7
        have I7 := hid (irow_of hr7')
        have hidl : (ids l).length = l.length := by simp [ids]
        obtain ⟨la, lc, rfl⟩ : ∃ la lc, v7 = .slice la l.length lc := by
          obtain ⟨la, lc, q1, -⟩ := I7.out
          exact ⟨la, lc, by rw [← hidl]; exact q1⟩
        have A7 := hid (HB6.out.later hb7)
        have LN := hid (len_any A7.out.bg)
        have hfew := A7.out.bg.ok.few
        have hfewi : (l.length : Int) ≤ 1073741824 := by omega
        have CELL : Hid (∀ W' (j : Nat) y, Below w7.heap.size w7 W' → l[j]? = some y → ∃ b o, la = some ⟨b, o, none⟩ ∧ W'.cell? ⟨b, o + j, none⟩ = some (.int .i64 y.1)) := fun W' j y hb hy => by
          obtain ⟨a2, c2, q1, q2⟩ := I7.out.later hb
          have hlt := (List.getElem?_eq_some_iff.1 hy).1
          rw [hidl] at q1
          obtain ⟨rfl, rfl⟩ : la = a2 ∧ lc = c2 := by simpa using q1
          rcases q2 with q2 | ⟨b, o, q2, q3⟩
          · have : l.length = 0 := by rw [← hidl, q2]; rfl
            omega
          · exact ⟨b, o, q2, q3 j y.1 (by unfold ids; rw [List.getElem?_map, hy]; rfl)⟩
        clear LS hr7 hr7' hb7 I7 hidl
        go_wp2_with fail
        refine LN.out.mono ?_
        rintro e w' ⟨rfl, hw'⟩
        obtain rfl := hw'.symm
        clear LN
        go_wp2_with fail
        go_loopg [7, 8, 9, 10, 11] l.length (fun gh i _ _ _ _ wr => ∃ k : Nat, k ≤ l.length ∧ gh = l.length - k ∧ i = .int .i64 (k : Int) ∧ Hid (Below w7.heap.size w7 wr))
        case atStart => exact ⟨0, Nat.zero_le _, rfl, rfl, Below.refl _ _⟩
        case round =>
          rename World => wk
          obtain ⟨k, hk, rfl, rfl, HK⟩ := hrel
          have AK := hid (A7.out.later HK.out)
          by_cases hlt : k < l.length
          · have hki : (k : Int) < (l.length : Int) := by omega
            obtain ⟨y, hy⟩ := at_lt l k hlt
            have hym := List.mem_of_getElem? hy
            obtain ⟨yd, yi, yg⟩ := y
            have hlow := AK.out.bg.ok.low _ hym
            have hnx := AK.out.bg.ok.next
            have hI := AK.out.bg.ok.i64 _ hym
            have hwho : who l yd = some (yi, yg) := (AK.out.bg.ok.who yd (yi, yg)).2 hym
            have hnum : num l (yi, yg) = some yd := (AK.out.bg.ok.num yd (yi, yg)).2 hym
            have hlow1 : 1 ≤ yd := hlow.1
            have hlow2 : yd < n := hlow.2
            have hl1 : ¬ yd < 1 := by omega
            have hl2 : ¬ yd ≥ n := by omega
            obtain ⟨b, o, rfl, d0⟩ := CELL.out wk k _ HK.out hy
            have d0 : wk.cell? ⟨b, o + k, none⟩ = some (.int .i64 yd) := d0
            have EN : Hid (Calls Tryd.prog 14 #[.pointer (some ⟨bb, 0, none⟩), .int .i64 yd] wk fun e W' => e = .returned (.tuple #[.agg #[.int .i64 yi, .int .i64 yg], .bool true]) ∧ Below wk.heap.size wk W') := by
              have := ent_any AK.out.bg yd (I64_mid (by omega) (by omega))
              rw [hwho] at this
              exact this
            have IDC : Hid (∀ W', Below w7.heap.size w7 W' → Calls Tryd.prog 15 #[.pointer (some ⟨bb, 0, none⟩), .agg #[.int .i64 yi, .int .i64 yg]] W' fun e w' => e = .returned (.tuple #[.int .i64 yd, .bool true]) ∧ Below W'.heap.size W' w') := fun W' hb => by
              have := id_any (A7.out.later hb).bg yi yg hI.1 hI.2
              rw [hnum] at this
              exact this
            have HY := hid hy
            clear hym hlow hI hwho hnum hy hlt
            go_wp2_with fail
            refine EN.out.mono ?_
            rintro e w8 ⟨rfl, hb8⟩
            obtain ⟨w9, hw9⟩ : ∃ w9, w9 = w8.alloc (.cells #[.int .i64 yi, .int .i64 yg] 27) := ⟨_, rfl⟩
            have b9 : Below w8.heap.size w8 w9 := by rw [hw9]; exact bAl _ _
            have r9 : w9.heap[w8.heap.size]? = some (.cells #[.int .i64 yi, .int .i64 yg] 27 (0, 0)) := by rw [hw9]; exact heap_alloc_new w8 _
            have x0 : w9.cell? ⟨w8.heap.size, 0, none⟩ = some (.int .i64 yi) := cell_blk r9 rfl
            have x1 : w9.cell? ⟨w8.heap.size, 1, none⟩ = some (.int .i64 yg) := cell_blk r9 rfl
            have B9 := hid ((HK.out.trans (hb8.mono HK.out.size)).trans (b9.mono (Nat.le_trans HK.out.size hb8.size)))
            have HW9 := hid hw9
            have ID9 := hid (IDC.out w9 B9.out)
            clear EN hb8 hw9 b9 r9 d0 IDC
            go_upto_region 23 with fail
            rw [← HW9.out]
            go_wp2_with fail
            refine ID9.out.mono ?_
            rintro e w10 ⟨rfl, hb10⟩
            have B10 := hid (B9.out.trans (hb10.mono B9.out.size))
            obtain ⟨b', o', hbo, d0⟩ := CELL.out w10 k _ B10.out HY.out
            obtain ⟨rfl, rfl⟩ : b = b' ∧ o = o' := by simpa using hbo
            have d0 : w10.cell? ⟨b, o + k, none⟩ = some (.int .i64 yd) := d0
            have NX := hid (next_any (A7.out.later B10.out).bg)
            clear ID9 hb10 x0 x1 hbo
            by_cases hk0 : k = 0
            · subst hk0
              have d00 : w10.cell? ⟨b, o, none⟩ = some (.int .i64 yd) := d0
              have hk0i : ¬ (((0 : Nat) : Int) > 0) := by omega
              go_wp2_with fail
              refine NX.out.mono ?_
              rintro e w' ⟨rfl, hw'⟩
              obtain rfl := hw'.symm
              clear NX
              go_wp2_with fail
              go_roundg (l.length - (0 + 1))
              case measure => omega
              case rel => exact ⟨0 + 1, by omega, rfl, by go_num, B10.out⟩
            · have hk0i : (k : Int) > 0 := by omega
              obtain ⟨z, hz⟩ := at_lt l (k - 1) (by omega)
              have hrise : z.1 < yd := by
                have := List.pairwise_iff_getElem.1 A7.out.bg.ok.rise (k - 1) k (by omega) (by omega) (by omega)
                rw [(List.getElem?_eq_some_iff.1 hz).2, (List.getElem?_eq_some_iff.1 HY.out).2] at this
                exact this
              have hrn : ¬ z.1 ≥ yd := by omega
              obtain ⟨b', o', hbo, d1⟩ := CELL.out w10 (k - 1) z B10.out hz
              obtain ⟨rfl, rfl⟩ : b = b' ∧ o = o' := by simpa using hbo
              have e1 : IntKind.i64.wrap ((k : Int) - 1) = ((k - 1 : Nat) : Int) := by rw [show ((k : Int) - 1) = ((k - 1 : Nat) : Int) by omega]; exact wrap_mid (by omega) (by omega)
              have e2 : ((k - 1 : Nat) : Int) < (l.length : Int) := by omega
              obtain ⟨k1, hk1⟩ : ∃ k1, k1 = k - 1 := ⟨_, rfl⟩
              rw [← hk1] at d1 e1 e2
              generalize z.1 = zd at *
              clear hbo hz hk1 hrise
              go_wp2_with fail
              refine NX.out.mono ?_
              rintro e w' ⟨rfl, hw'⟩
              obtain rfl := hw'.symm
              clear NX
              go_wp2_with fail
              go_roundg (l.length - (k + 1))
              case measure => omega
              case rel => exact ⟨k + 1, by omega, rfl, by go_num, B10.out⟩
          · have hki : ¬ (k : Int) < (l.length : Int) := by omega
            clear hk hlt CELL
            go_wp2_with fail
            go_roundg (200 - (q + 1))
            case measure => omega
            case rel => exact ⟨q + 1, by omega, rfl, by go_num, n, l, AK.out⟩
      by_cases hk3 : x.kind = 3
      · rw [hk3] at y0
        have CC := hid (any_drop A4.out E1.out x.n HWF.out.2.2.2)
        clear hk3
        go_wp2_with fail
        refine CC.out.mono ?_
        rintro e w6 ⟨u6, r6, rfl, n, l, hB6⟩
        have HB6 := hid (hB6.few (fr' := []) fun x hx => by simp at hx)
        clear CC hB6 y0 y1 y2 y3 A4
        have LS := hid (list_any HB6.out.bg)
        go_wp2_with fail
        refine LS.out.mono ?_
        rintro e w7 ⟨v7, rfl, hr7, hb7⟩
        have hr7' : w7.ownsRow w6.heap.size 3 1 v7 (ids l).length ((ids l).map Go.encZ) := by rw [show (ids l).length = l.length by simp [ids]]; exact hr7
        have I7 := hid (irow_of hr7')
        have hidl : (ids l).length = l.length := by simp [ids]
        obtain ⟨la, lc, rfl⟩ : ∃ la lc, v7 = .slice la l.length lc := by
          obtain ⟨la, lc, q1, -⟩ := I7.out
          exact ⟨la, lc, by rw [← hidl]; exact q1⟩
        have A7 := hid (HB6.out.later hb7)
        have LN := hid (len_any A7.out.bg)
        have hfew := A7.out.bg.ok.few
        have hfewi : (l.length : Int) ≤ 1073741824 := by omega
        have CELL : Hid (∀ W' (j : Nat) y, Below w7.heap.size w7 W' → l[j]? = some y → ∃ b o, la = some ⟨b, o, none⟩ ∧ W'.cell? ⟨b, o + j, none⟩ = some (.int .i64 y.1)) := fun W' j y hb hy => by
          obtain ⟨a2, c2, q1, q2⟩ := I7.out.later hb
          have hlt := (List.getElem?_eq_some_iff.1 hy).1
          rw [hidl] at q1
          obtain ⟨rfl, rfl⟩ : la = a2 ∧ lc = c2 := by simpa using q1
          rcases q2 with q2 | ⟨b, o, q2, q3⟩
          · have : l.length = 0 := by rw [← hidl, q2]; rfl
            omega
          · exact ⟨b, o, q2, q3 j y.1 (by unfold ids; rw [List.getElem?_map, hy]; rfl)⟩
        clear LS hr7 hr7' hb7 I7 hidl
        go_wp2_with fail
        refine LN.out.mono ?_
        rintro e w' ⟨rfl, hw'⟩
        obtain rfl := hw'.symm
        clear LN
        go_wp2_with fail
        go_loopg [7, 8, 9, 10, 11] l.length (fun gh i _ _ _ _ wr => ∃ k : Nat, k ≤ l.length ∧ gh = l.length - k ∧ i = .int .i64 (k : Int) ∧ Hid (Below w7.heap.size w7 wr))
        case atStart => exact ⟨0, Nat.zero_le _, rfl, rfl, Below.refl _ _⟩
        case round =>
          rename World => wk
          obtain ⟨k, hk, rfl, rfl, HK⟩ := hrel
          have AK := hid (A7.out.later HK.out)
          by_cases hlt : k < l.length
          · have hki : (k : Int) < (l.length : Int) := by omega
            obtain ⟨y, hy⟩ := at_lt l k hlt
            have hym := List.mem_of_getElem? hy
            obtain ⟨yd, yi, yg⟩ := y
            have hlow := AK.out.bg.ok.low _ hym
            have hnx := AK.out.bg.ok.next
            have hI := AK.out.bg.ok.i64 _ hym
            have hwho : who l yd = some (yi, yg) := (AK.out.bg.ok.who yd (yi, yg)).2 hym
            have hnum : num l (yi, yg) = some yd := (AK.out.bg.ok.num yd (yi, yg)).2 hym
            have hlow1 : 1 ≤ yd := hlow.1
            have hlow2 : yd < n := hlow.2
            have hl1 : ¬ yd < 1 := by omega
            have hl2 : ¬ yd ≥ n := by omega
            obtain ⟨b, o, rfl, d0⟩ := CELL.out wk k _ HK.out hy
            have d0 : wk.cell? ⟨b, o + k, none⟩ = some (.int .i64 yd) := d0
            have EN : Hid (Calls Tryd.prog 14 #[.pointer (some ⟨bb, 0, none⟩), .int .i64 yd] wk fun e W' => e = .returned (.tuple #[.agg #[.int .i64 yi, .int .i64 yg], .bool true]) ∧ Below wk.heap.size wk W') := by
              have := ent_any AK.out.bg yd (I64_mid (by omega) (by omega))
              rw [hwho] at this
              exact this
            have IDC : Hid (∀ W', Below w7.heap.size w7 W' → Calls Tryd.prog 15 #[.pointer (some ⟨bb, 0, none⟩), .agg #[.int .i64 yi, .int .i64 yg]] W' fun e w' => e = .returned (.tuple #[.int .i64 yd, .bool true]) ∧ Below W'.heap.size W' w') := fun W' hb => by
              have := id_any (A7.out.later hb).bg yi yg hI.1 hI.2
              rw [hnum] at this
              exact this
            have HY := hid hy
            clear hym hlow hI hwho hnum hy hlt
            go_wp2_with fail
            refine EN.out.mono ?_
            rintro e w8 ⟨rfl, hb8⟩
            obtain ⟨w9, hw9⟩ : ∃ w9, w9 = w8.alloc (.cells #[.int .i64 yi, .int .i64 yg] 27) := ⟨_, rfl⟩
            have b9 : Below w8.heap.size w8 w9 := by rw [hw9]; exact bAl _ _
            have r9 : w9.heap[w8.heap.size]? = some (.cells #[.int .i64 yi, .int .i64 yg] 27 (0, 0)) := by rw [hw9]; exact heap_alloc_new w8 _
            have x0 : w9.cell? ⟨w8.heap.size, 0, none⟩ = some (.int .i64 yi) := cell_blk r9 rfl
            have x1 : w9.cell? ⟨w8.heap.size, 1, none⟩ = some (.int .i64 yg) := cell_blk r9 rfl
            have B9 := hid ((HK.out.trans (hb8.mono HK.out.size)).trans (b9.mono (Nat.le_trans HK.out.size hb8.size)))
            have HW9 := hid hw9
            have ID9 := hid (IDC.out w9 B9.out)
            clear EN hb8 hw9 b9 r9 d0 IDC
            go_upto_region 23 with fail
            rw [← HW9.out]
            go_wp2_with fail
            refine ID9.out.mono ?_
            rintro e w10 ⟨rfl, hb10⟩
            have B10 := hid (B9.out.trans (hb10.mono B9.out.size))
            obtain ⟨b', o', hbo, d0⟩ := CELL.out w10 k _ B10.out HY.out
            obtain ⟨rfl, rfl⟩ : b = b' ∧ o = o' := by simpa using hbo
            have d0 : w10.cell? ⟨b, o + k, none⟩ = some (.int .i64 yd) := d0
            have NX := hid (next_any (A7.out.later B10.out).bg)
            clear ID9 hb10 x0 x1 hbo
            by_cases hk0 : k = 0
            · subst hk0
              have d00 : w10.cell? ⟨b, o, none⟩ = some (.int .i64 yd) := d0
              have hk0i : ¬ (((0 : Nat) : Int) > 0) := by omega
              go_wp2_with fail
              refine NX.out.mono ?_
              rintro e w' ⟨rfl, hw'⟩
              obtain rfl := hw'.symm
              clear NX
              go_wp2_with fail
              go_roundg (l.length - (0 + 1))
              case measure => omega
              case rel => exact ⟨0 + 1, by omega, rfl, by go_num, B10.out⟩
            · have hk0i : (k : Int) > 0 := by omega
              obtain ⟨z, hz⟩ := at_lt l (k - 1) (by omega)
              have hrise : z.1 < yd := by
                have := List.pairwise_iff_getElem.1 A7.out.bg.ok.rise (k - 1) k (by omega) (by omega) (by omega)
                rw [(List.getElem?_eq_some_iff.1 hz).2, (List.getElem?_eq_some_iff.1 HY.out).2] at this
                exact this
              have hrn : ¬ z.1 ≥ yd := by omega
              obtain ⟨b', o', hbo, d1⟩ := CELL.out w10 (k - 1) z B10.out hz
              obtain ⟨rfl, rfl⟩ : b = b' ∧ o = o' := by simpa using hbo
              have e1 : IntKind.i64.wrap ((k : Int) - 1) = ((k - 1 : Nat) : Int) := by rw [show ((k : Int) - 1) = ((k - 1 : Nat) : Int) by omega]; exact wrap_mid (by omega) (by omega)
              have e2 : ((k - 1 : Nat) : Int) < (l.length : Int) := by omega
              obtain ⟨k1, hk1⟩ : ∃ k1, k1 = k - 1 := ⟨_, rfl⟩
              rw [← hk1] at d1 e1 e2
              generalize z.1 = zd at *
              clear hbo hz hk1 hrise
              go_wp2_with fail
              refine NX.out.mono ?_
              rintro e w' ⟨rfl, hw'⟩
              obtain rfl := hw'.symm
              clear NX
              go_wp2_with fail
              go_roundg (l.length - (k + 1))
              case measure => omega
              case rel => exact ⟨k + 1, by omega, rfl, by go_num, B10.out⟩
          · have hki : ¬ (k : Int) < (l.length : Int) := by omega
            clear hk hlt CELL
            go_wp2_with fail
            go_roundg (200 - (q + 1))
            case measure => omega
            case rel => exact ⟨q + 1, by omega, rfl, by go_num, n, l, AK.out⟩
      have j1 : (x.kind == 1) = false := by simp [hk1]
      have j2 : (x.kind == 2) = false := by simp [hk2]
      have j3 : (x.kind == 3) = false := by simp [hk3]
      have CC := hid (any_turn A4.out E1.out x.n)
      clear hk1 hk2 hk3
      go_wp2_with fail
      refine CC.out.mono ?_
      rintro e w6 ⟨u6, r6, rfl, n, l, hB6⟩
      have HB6 := hid (hB6.few (fr' := []) fun x hx => by simp at hx)
      clear CC hB6 y0 y1 y2 y3 A4
      have LS := hid (list_any HB6.out.bg)
      go_wp2_with fail
      refine LS.out.mono ?_
      rintro e w7 ⟨v7, rfl, hr7, hb7⟩
      have hr7' : w7.ownsRow w6.heap.size 3 1 v7 (ids l).length ((ids l).map Go.encZ) := by rw [show (ids l).length = l.length by simp [ids]]; exact hr7
      have I7 := hid (irow_of hr7')
      have hidl : (ids l).length = l.length := by simp [ids]
      obtain ⟨la, lc, rfl⟩ : ∃ la lc, v7 = .slice la l.length lc := by
        obtain ⟨la, lc, q1, -⟩ := I7.out
        exact ⟨la, lc, by rw [← hidl]; exact q1⟩
      have A7 := hid (HB6.out.later hb7)
      have LN := hid (len_any A7.out.bg)
      have hfew := A7.out.bg.ok.few
      have hfewi : (l.length : Int) ≤ 1073741824 := by omega
      have CELL : Hid (∀ W' (j : Nat) y, Below w7.heap.size w7 W' → l[j]? = some y → ∃ b o, la = some ⟨b, o, none⟩ ∧ W'.cell? ⟨b, o + j, none⟩ = some (.int .i64 y.1)) := fun W' j y hb hy => by
        obtain ⟨a2, c2, q1, q2⟩ := I7.out.later hb
        have hlt := (List.getElem?_eq_some_iff.1 hy).1
        rw [hidl] at q1
        obtain ⟨rfl, rfl⟩ : la = a2 ∧ lc = c2 := by simpa using q1
        rcases q2 with q2 | ⟨b, o, q2, q3⟩
        · have : l.length = 0 := by rw [← hidl, q2]; rfl
          omega
        · exact ⟨b, o, q2, q3 j y.1 (by unfold ids; rw [List.getElem?_map, hy]; rfl)⟩
      clear LS hr7 hr7' hb7 I7 hidl
      go_wp2_with fail
      refine LN.out.mono ?_
      rintro e w' ⟨rfl, hw'⟩
      obtain rfl := hw'.symm
      clear LN
      go_wp2_with fail
      go_loopg [7, 8, 9, 10, 11] l.length (fun gh i _ _ _ _ wr => ∃ k : Nat, k ≤ l.length ∧ gh = l.length - k ∧ i = .int .i64 (k : Int) ∧ Hid (Below w7.heap.size w7 wr))
      case atStart => exact ⟨0, Nat.zero_le _, rfl, rfl, Below.refl _ _⟩
      case round =>
        rename World => wk
        obtain ⟨k, hk, rfl, rfl, HK⟩ := hrel
        have AK := hid (A7.out.later HK.out)
        by_cases hlt : k < l.length
        · have hki : (k : Int) < (l.length : Int) := by omega
          obtain ⟨y, hy⟩ := at_lt l k hlt
          have hym := List.mem_of_getElem? hy
          obtain ⟨yd, yi, yg⟩ := y
          have hlow := AK.out.bg.ok.low _ hym
          have hnx := AK.out.bg.ok.next
          have hI := AK.out.bg.ok.i64 _ hym
          have hwho : who l yd = some (yi, yg) := (AK.out.bg.ok.who yd (yi, yg)).2 hym
          have hnum : num l (yi, yg) = some yd := (AK.out.bg.ok.num yd (yi, yg)).2 hym
          have hlow1 : 1 ≤ yd := hlow.1
          have hlow2 : yd < n := hlow.2
          have hl1 : ¬ yd < 1 := by omega
          have hl2 : ¬ yd ≥ n := by omega
          obtain ⟨b, o, rfl, d0⟩ := CELL.out wk k _ HK.out hy
          have d0 : wk.cell? ⟨b, o + k, none⟩ = some (.int .i64 yd) := d0
          have EN : Hid (Calls Tryd.prog 14 #[.pointer (some ⟨bb, 0, none⟩), .int .i64 yd] wk fun e W' => e = .returned (.tuple #[.agg #[.int .i64 yi, .int .i64 yg], .bool true]) ∧ Below wk.heap.size wk W') := by
            have := ent_any AK.out.bg yd (I64_mid (by omega) (by omega))
            rw [hwho] at this
            exact this
          have IDC : Hid (∀ W', Below w7.heap.size w7 W' → Calls Tryd.prog 15 #[.pointer (some ⟨bb, 0, none⟩), .agg #[.int .i64 yi, .int .i64 yg]] W' fun e w' => e = .returned (.tuple #[.int .i64 yd, .bool true]) ∧ Below W'.heap.size W' w') := fun W' hb => by
            have := id_any (A7.out.later hb).bg yi yg hI.1 hI.2
            rw [hnum] at this
            exact this
          have HY := hid hy
          clear hym hlow hI hwho hnum hy hlt
          go_wp2_with fail
          refine EN.out.mono ?_
          rintro e w8 ⟨rfl, hb8⟩
          obtain ⟨w9, hw9⟩ : ∃ w9, w9 = w8.alloc (.cells #[.int .i64 yi, .int .i64 yg] 27) := ⟨_, rfl⟩
          have b9 : Below w8.heap.size w8 w9 := by rw [hw9]; exact bAl _ _
          have r9 : w9.heap[w8.heap.size]? = some (.cells #[.int .i64 yi, .int .i64 yg] 27 (0, 0)) := by rw [hw9]; exact heap_alloc_new w8 _
          have x0 : w9.cell? ⟨w8.heap.size, 0, none⟩ = some (.int .i64 yi) := cell_blk r9 rfl
          have x1 : w9.cell? ⟨w8.heap.size, 1, none⟩ = some (.int .i64 yg) := cell_blk r9 rfl
          have B9 := hid ((HK.out.trans (hb8.mono HK.out.size)).trans (b9.mono (Nat.le_trans HK.out.size hb8.size)))
          have HW9 := hid hw9
          have ID9 := hid (IDC.out w9 B9.out)
          clear EN hb8 hw9 b9 r9 d0 IDC
          go_upto_region 23 with fail
          rw [← HW9.out]
          go_wp2_with fail
          refine ID9.out.mono ?_
          rintro e w10 ⟨rfl, hb10⟩
          have B10 := hid (B9.out.trans (hb10.mono B9.out.size))
          obtain ⟨b', o', hbo, d0⟩ := CELL.out w10 k _ B10.out HY.out
          obtain ⟨rfl, rfl⟩ : b = b' ∧ o = o' := by simpa using hbo
          have d0 : w10.cell? ⟨b, o + k, none⟩ = some (.int .i64 yd) := d0
          have NX := hid (next_any (A7.out.later B10.out).bg)
          clear ID9 hb10 x0 x1 hbo
          by_cases hk0 : k = 0
          · subst hk0
            have d00 : w10.cell? ⟨b, o, none⟩ = some (.int .i64 yd) := d0
            have hk0i : ¬ (((0 : Nat) : Int) > 0) := by omega
            go_wp2_with fail
            refine NX.out.mono ?_
            rintro e w' ⟨rfl, hw'⟩
            obtain rfl := hw'.symm
            clear NX
            go_wp2_with fail
            go_roundg (l.length - (0 + 1))
            case measure => omega
            case rel => exact ⟨0 + 1, by omega, rfl, by go_num, B10.out⟩
          · have hk0i : (k : Int) > 0 := by omega
            obtain ⟨z, hz⟩ := at_lt l (k - 1) (by omega)
            have hrise : z.1 < yd := by
              have := List.pairwise_iff_getElem.1 A7.out.bg.ok.rise (k - 1) k (by omega) (by omega) (by omega)
              rw [(List.getElem?_eq_some_iff.1 hz).2, (List.getElem?_eq_some_iff.1 HY.out).2] at this
              exact this
            have hrn : ¬ z.1 ≥ yd := by omega
            obtain ⟨b', o', hbo, d1⟩ := CELL.out w10 (k - 1) z B10.out hz
            obtain ⟨rfl, rfl⟩ : b = b' ∧ o = o' := by simpa using hbo
            have e1 : IntKind.i64.wrap ((k : Int) - 1) = ((k - 1 : Nat) : Int) := by rw [show ((k : Int) - 1) = ((k - 1 : Nat) : Int) by omega]; exact wrap_mid (by omega) (by omega)
            have e2 : ((k - 1 : Nat) : Int) < (l.length : Int) := by omega
            obtain ⟨k1, hk1⟩ : ∃ k1, k1 = k - 1 := ⟨_, rfl⟩
            rw [← hk1] at d1 e1 e2
            generalize z.1 = zd at *
            clear hbo hz hk1 hrise
            go_wp2_with fail
            refine NX.out.mono ?_
            rintro e w' ⟨rfl, hw'⟩
            obtain rfl := hw'.symm
            clear NX
            go_wp2_with fail
            go_roundg (l.length - (k + 1))
            case measure => omega
            case rel => exact ⟨k + 1, by omega, rfl, by go_num, B10.out⟩
        · have hki : ¬ (k : Int) < (l.length : Int) := by omega
          clear hk hlt CELL
          go_wp2_with fail
          go_roundg (200 - (q + 1))
          case measure => omega
          case rel => exact ⟨q + 1, by omega, rfl, by go_num, n, l, AK.out⟩
    · by_cases h1 : q < cl.length
      · have h1i : (q : Int) < (cl.length : Int) := by omega
        have h2i : ¬ (q : Int) < 200 := by omega
        clear hc h1
        go_wp2_with fail
        go_ret
        exact ⟨rfl, BR.out⟩
      · have h1i : ¬ (q : Int) < (cl.length : Int) := by omega
        clear hc h1
        go_wp2_with fail
        go_ret
        exact ⟨rfl, BR.out⟩
end Go.Proofs.YtagjmggiaffihabDoor.Bd
