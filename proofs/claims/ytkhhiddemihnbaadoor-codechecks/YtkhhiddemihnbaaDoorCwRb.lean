/- The document's Depths. -/
import Derived.Test.YtkhhiddemihnbaaDoorCwRa
import Derived.Deep.LoopGhost
namespace Go.Proofs.YtkhhiddemihnbaaDoor.Cw
open Go.RowKit Go.Shelf
def RDep (l : List Ins) (W' : World) (r b : Value) : Prop := (NoWhere l ∧ ∃ d, b = .bool true ∧ Lbl l d ∧ IRow W' r d) ∨ (r = .slice none 0 0 ∧ b = .bool false ∧ ¬ Fine l)
theorem Ou.irow {w0 wr : World} {v : Value} {d : List Int} (h : Ou w0 v d wr) : IRow wr v d := by
  rcases h.own.2 with ⟨rfl, h0⟩ | ⟨g, cap, cur, rfl, -, -, hc, -, -, -⟩
  · obtain rfl := List.length_eq_zero_iff.1 h0
    exact ⟨none, 0, rfl, .inl rfl⟩
  · exact ⟨_, cap, rfl, .inr ⟨g, 0, rfl, fun j x hj => by rw [Nat.zero_add]; exact h.cell hj⟩⟩
/-- The depths so far, in a row of N. -/
structure Ov (w0 : World) (g c N : Nat) (d : List Int) (wr : World) : Prop where
  ou : Ou w0 (.slice (some ⟨g, 0, none⟩) N c) d wr
  len : d.length = N
theorem Ov.later {w0 wr w1 : World} {g c N : Nat} {d : List Int} (h : Ov w0 g c N d wr) (hb : Below wr.heap.size wr w1) : Ov w0 g c N d w1 := ⟨h.ou.later hb, h.len⟩
theorem Ov.cell {w0 wr : World} {g c N q : Nat} {d : List Int} {n : Int} (h : Ov w0 g c N d wr) (hq : d[q]? = some n) : wr.cell? ⟨g, q, none⟩ = some (.int .i64 n) ∧ wr.frozen? ⟨g, q, none⟩ = false ∧ q < N := by
  obtain ⟨h, rfl⟩ := h
  exact ⟨h.cell hq, h.free q, (List.getElem?_eq_some_iff.1 hq).1⟩
theorem Ov.put {w0 wr : World} {g c N q : Nat} {d : List Int} {m : Int} (h : Ov w0 g c N d wr) : Ov w0 g c N (d.set q m) (wr.setCell ⟨g, q, none⟩ (.int .i64 m)) := by
  obtain ⟨h, rfl⟩ := h
  have := h.put (q := q) (m := m)
  rw [List.length_set] at this
  exact ⟨this, by simp⟩
theorem Ov.low {w0 wr : World} {g c N : Nat} {d : List Int} (h : Ov w0 g c N d wr) : w0.heap.size ≤ g ∧ g < wr.heap.size := by
  obtain ⟨h, rfl⟩ := h
  obtain ⟨cur, h1, h2⟩ := h.blk
  exact ⟨h2, (Array.getElem?_eq_some_iff.1 h1).1⟩
/-- So far no instruction leads nowhere. -/
def NwTo (l : List Ins) (k : Nat) : Prop := ∀ j x, j < k → l[j]? = some x → nowhere l.length x = false
theorem NwTo.next {l : List Ins} {k : Nat} {x : Ins} (h : NwTo l k) (hx : l[k]? = some x) (hn : nowhere l.length x = false) : NwTo l (k + 1) := by
  intro j y hj hy
  by_cases e : j = k
  · subst e
    rw [hx] at hy
    obtain rfl := Option.some.inj hy
    exact hn
  · exact h j y (by omega) hy
theorem NwTo.all {l : List Ins} (h : NwTo l l.length) : NoWhere l := by
  intro x hx
  obtain ⟨j, hj⟩ := List.getElem?_of_mem hx
  exact h j x (List.getElem?_eq_some_iff.1 hj).1 hj
theorem not_fine {l : List Ins} {k : Nat} {x : Ins} (hx : l[k]? = some x) (hn : nowhere l.length x = true) : ¬ Fine l := by
  intro hf
  have := hf.1 x (List.mem_of_getElem? hx)
  rw [hn] at this
  cases this
def fill (k : Nat) : List Int := 0 :: List.replicate k (-1)
theorem fill_next (k : Nat) : fill k ++ [-1] = fill (k + 1) := by
  unfold fill
  rw [List.replicate_succ']
  rfl
theorem fill_len (k : Nat) : (fill k).length = k + 1 := by simp [fill]
def bump (b : Bool) : Nat := if b then 1 else 0
set_option maxHeartbeats 12800000 in
set_option maxRecDepth 100000 in
theorem rdepths_any (W : World) (v : Value) (l : List Ins) (hI : InsRow W v l) (hl : l.length ≤ 200) :
    Calls Tryd.prog 20 #[v] W fun e W' => ∃ r b, e = .returned (.tuple #[r, b]) ∧ RDep l W' r b ∧ Below W.heap.size W W' := by
  have HI := hid hI
  obtain ⟨sa, sc, rfl, -, -⟩ := hI
  have hli : (l.length : Int) ≤ 200 := by omega
  have O0 : Hid (Ou W (.slice (some ⟨W.heap.size, 0, none⟩) 1 1) (fill 0) (W.alloc (.cells #[.int .i64 0] 3))) :=
    ⟨World.ownsRow_lit (base := W.heap.size) (e := 3) (size := 1) W #[.int .i64 0] 1 (Nat.le_refl _) (by unfold maxLen; omega) (by simp), bAl W _⟩
  go_enter Tryd.func20, Tryd.ntmps20
  go_upto_region 2 with fail
  generalize W.alloc (.cells #[.int .i64 0] 3) = w1 at *
  obtain ⟨ov, hov⟩ : ∃ ov, ov = Value.slice (some ⟨W.heap.size, 0, none⟩) 1 1 := ⟨_, rfl⟩
  rw [← hov] at O0
  rw [← hov]
  clear hov
  go_wp2_with fail
  go_loopw [4, 5, 6, 7] (fun ov i _ _ wr => ∃ k : Nat, k ≤ l.length ∧ i = .int .i64 (k : Int) ∧ Hid (Ou W ov (fill k) wr) ∧ Hid (NwTo l k)) (fun _ i _ _ _ => l.length - (intOf i).toNat)
  case atStart => exact ⟨0, Nat.zero_le _, rfl, O0, hid fun j x hj => absurd hj (by omega)⟩
  case round =>
    clear O0
    obtain ⟨k, hk, rfl, HO, HN⟩ := hrel
    have BW := HO.out.bel
    by_cases hlt : k < l.length
    · have hki : (k : Int) < (l.length : Int) := by omega
      obtain ⟨x, hx⟩ := at_lt l k hlt
      obtain ⟨a', c', e', -, hlay⟩ := HI.out
      simp only [Value.slice.injEq, true_and] at e'
      obtain ⟨rfl, rfl⟩ := e'
      rcases hlay with h0 | ⟨bb, oo, rfl, hc⟩
      · rw [h0] at hx
        simp at hx
      obtain ⟨x0, x1, x2⟩ := (hc k x hx).later BW
      have OF := hid (of_any x.1 wr)
      have NN := hid (fun hn => HN.out.next hx hn)
      have NF := hid (fun hn => not_fine hx hn)
      have EN : Hid (nowhere l.length x = (!known x.1 || ((x.1 == 20 || x.1 == 21) && !(decide (0 ≤ x.2.1) && decide (x.2.1 ≤ (l.length : Int)))))) := rfl
      obtain ⟨row, HR⟩ : ∃ row, Hid (row = fill k) := ⟨_, hid (Eq.refl _)⟩
      rw [← HR.out] at HO
      obtain ⟨ga, gc, rfl⟩ := own_slice HO.out.own
      have hrl : row.length ≤ 1000 := by rw [HR.out, fill_len]; omega
      unfold opV at OF
      obtain ⟨op, xa, xb⟩ := x
      simp only [] at x0 x1 x2 OF NN NF EN
      generalize word op = wd at *
      generalize args op = n1 at *
      generalize takes op = n2 at *
      generalize lays op = n3 at *
      clear hc hx
      go_wp2_with fail
      refine OF.out.mono ?_
      rintro e w3 ⟨rfl, b3⟩
      have H3 := hid (HO.out.later (b3.trans ((bAl w3 (.cells #[.string wd, .int .i64 n1, .int .i64 n2, .int .i64 n3] 24)).mono b3.size)))
      have x0' := seen (bAl w3 (.cells #[.string wd, .int .i64 n1, .int .i64 n2, .int .i64 n3] 24)) (Nat.le_refl _) (seen b3 (Nat.le_refl _) x0)
      have x1' := seen (bAl w3 (.cells #[.string wd, .int .i64 n1, .int .i64 n2, .int .i64 n3] 24)) (Nat.le_refl _) (seen b3 (Nat.le_refl _) x1)
      clear b3 OF x0 x1 x2 BW
      go_upto_region 6 with fail
      generalize w3.alloc (.cells #[.string wd, .int .i64 n1, .int .i64 n2, .int .i64 n3] 24) = w4 at *
      cases hkn : known op with
      | false =>
        have N2 := hid (NF.out (by rw [EN.out, hkn]; rfl))
        clear NN NF EN hkn
        go_wp2_with fail
        go_ret2
        exact ⟨_, _, rfl, .inr ⟨rfl, rfl, N2.out⟩, H3.out.bel⟩
      | true =>
        cases h20 : op == 20 <;> cases h21 : op == 21
        all_goals
          rw [hkn, h20, h21] at EN
          simp only [Bool.not_true, Bool.false_or, Bool.true_or, Bool.or_true, Bool.or_self, Bool.true_and, Bool.false_and] at EN
        case' false.false =>
          have N2 := hid (NN.out EN.out)
          clear NN NF EN hkn
          go_wp2_with (at_builtin; refine wpList_num (m := -1) rfl (.tmp 67) (.tmp 68) rfl H3.out hrl rfl rfl ?_; intro g cap w5 hw5)
          have NO : Hid (Ou W (.slice (some ⟨g, 0, none⟩) (row.length + 1) cap) (fill (k + 1)) w5) := by
            show Ou _ _ _ _
            rw [← fill_next, ← HR.out]
            exact hw5.out
          go_wp2_with fail
          go_roundw
          case rel => exact ⟨k + 1, by omega, by go_num, NO, N2⟩
          case measure => simp [intOf]; omega
        all_goals
          by_cases ha0 : xa < 0
          · have N2 := hid (NF.out (by rw [EN.out]; simp; omega))
            clear NN NF EN hkn
            go_wp2_with fail
            go_ret2
            exact ⟨_, _, rfl, .inr ⟨rfl, rfl, N2.out⟩, H3.out.bel⟩
          · by_cases hal : (l.length : Int) < xa
            · have N2 := hid (NF.out (by rw [EN.out]; simp; omega))
              clear NN NF EN hkn
              go_wp2_with fail
              go_ret2
              exact ⟨_, _, rfl, .inr ⟨rfl, rfl, N2.out⟩, H3.out.bel⟩
            · have N2 := hid (NN.out (by rw [EN.out]; simp; omega))
              clear NN NF EN hkn
              go_wp2_with (at_builtin; refine wpList_num (m := -1) rfl (.tmp 67) (.tmp 68) rfl H3.out hrl rfl rfl ?_; intro g cap w5 hw5)
              have NO : Hid (Ou W (.slice (some ⟨g, 0, none⟩) (row.length + 1) cap) (fill (k + 1)) w5) := by
                show Ou _ _ _ _
                rw [← fill_next, ← HR.out]
                exact hw5.out
              go_wp2_with fail
              go_roundw
              case rel => exact ⟨k + 1, by omega, by go_num, NO, N2⟩
              case measure => simp [intOf]; omega
    · have hki : ¬ ((k : Int) < (l.length : Int)) := by omega
      obtain rfl : k = l.length := by omega
      have NW := hid HN.out.all
      obtain ⟨g, cap, N, rfl, hov⟩ : ∃ g cap N, u4 = .slice (some ⟨g, 0, none⟩) N cap ∧ Ov W g cap N (fill l.length) wr ∧ N = l.length + 1 := by
        obtain ⟨ga, gc, rfl⟩ := own_slice HO.out.own
        obtain ⟨g, rfl, -⟩ := own_some HO.out.own (by rw [fill_len]; omega)
        exact ⟨g, gc, _, rfl, ⟨HO.out, rfl⟩, fill_len _⟩
      obtain ⟨HV, HN1⟩ := hov
      have OV := hid HV
      have EN := hid HN1
      clear HV HN1 HO HN
      go_wp2_with fail
      go_loopg [8, 9, 10, 11, 12, 13, 14] (2 * open' (fill l.length) + 1) (fun gh ag _ _ _ _ _ _ wx => ∃ (d : List Int) (b : Bool), ag = .bool b ∧ gh = 2 * open' d + bump b ∧ Hid (Bs l d) ∧ Hid (Ov W g cap N d wx) ∧ Hid (b = false → Lbl l d))
      case atStart => exact ⟨fill l.length, true, rfl, rfl, bs_begin l, OV, hid fun h => by cases h⟩
      case round =>
        clear OV
        obtain ⟨d, b, rfl, rfl, HBs, HOv, HL⟩ := hrel
        cases b with
        | false =>
          have FIN : Hid (RDep l wr (.slice (some ⟨g, 0, none⟩) N cap) (.bool true)) := .inl ⟨NW.out, d, rfl, HL.out rfl, HOv.out.ou.irow⟩
          have BW := HOv.out.ou.bel
          go_wp2_with fail
          go_ret2
          exact ⟨_, _, rfl, FIN.out, BW⟩
        | true =>
          have R0 := hid HBs.out.begin
          clear HL
          go_wp2_with fail
          go_loopw [8, 9, 10, 11, 12, 13, 14] (fun ag i _ _ _ _ _ wy => ∃ (d' : List Int) (b' : Bool) (k : Nat), k ≤ l.length ∧ ag = .bool b' ∧ i = .int .i64 (k : Int) ∧ Hid (Rd l d' (open' d) k b') ∧ Hid (Ov W g cap N d' wy)) (fun _ i _ _ _ _ _ _ => l.length - (intOf i).toNat)
          case atStart => exact ⟨d, false, 0, Nat.zero_le _, rfl, rfl, R0, HOv⟩
          case round =>
            clear R0 HOv
            rename World => wy
            obtain ⟨d', b', k, hk, rfl, rfl, HR, HO⟩ := hrel
            have BW := hid HO.out.ou.bel
            by_cases hlt : k < l.length
            · have hki : (k : Int) < (l.length : Int) := by omega
              have hkN : (k : Int) < (N : Int) := by have := EN.out; omega
              have hNi : (N : Int) ≤ 201 := by have := EN.out; omega
              obtain ⟨n, hn⟩ := at_lt d' k (by rw [HR.out.bs.len]; omega)
              obtain ⟨y0, y1, -⟩ := HO.out.cell hn
              have DN := hid hn
              have hn16 := HR.out.bs.hi k n hn
              by_cases hneg : n < 0
              · have RN := hid (HR.out.skip hn hneg)
                clear hn
                go_wp2_with fail
                go_roundw
                case rel => exact ⟨d', b', k + 1, by omega, rfl, by go_num, RN, HO⟩
                case measure => simp [intOf]; omega
              · obtain ⟨x, hx⟩ := at_lt l k hlt
                obtain ⟨a', c', e', -, hlay⟩ := HI.out
                simp only [Value.slice.injEq, true_and] at e'
                obtain ⟨rfl, rfl⟩ := e'
                rcases hlay with h0 | ⟨bb, oo, rfl, hc⟩
                · rw [h0] at hx
                  simp at hx
                obtain ⟨x0, x1, x2⟩ := (hc k x hx).later BW.out
                have OF := hid (of_any x.1 wy)
                unfold opV at OF
                have KN : known x.1 = true := by
                  have := NW.out x (List.mem_of_getElem? hx)
                  unfold nowhere at this
                  cases h : known x.1 with
                  | true => rfl
                  | false => rw [h] at this; simp at this
                have JL : jmp x.1 = true → 0 ≤ x.2.1 := by
                  intro hj
                  have := NW.out x (List.mem_of_getElem? hx)
                  simp [nowhere, hj, isPl] at this
                  omega
                rw [KN] at OF
                have FW := hid (fun W' => follows_any W' x k (by omega) KN JL)
                have t0 := takes_low x.1
                have t3 := takes_high x.1
                have y0' := lays_low x.1
                have y3' := lays_high x.1
                have BAD := hid (fun ho => HR.out.bad hn (by omega) hx ho)
                have ENT := hid (fun ho => HR.out.enter hn (by omega) hx ho)
                have HX := hid hx
                obtain ⟨f, hf⟩ : ∃ f, f = fol x k := ⟨_, rfl⟩
                rw [← hf] at FW ENT
                have HF := hid hf
                clear hc hf hx hn KN JL
                obtain ⟨X, hX⟩ : ∃ X : Ins, X = x := ⟨_, rfl⟩
                obtain ⟨op, xa, xb⟩ := x
                rw [← hX] at ENT BAD HX HF
                have NX : Hid (nxt X n = n - takes op + lays op) := by rw [hX]; exact rfl
                have OKD : Hid (okAt X n ↔ (takes op ≤ n ∧ n - takes op + lays op ≤ 16)) := by rw [hX]; exact Iff.rfl
                unfold iV at FW
                simp only [] at x0 x1 x2 OF FW t0 t3 y0' y3'
                clear hX
                generalize word op = wd at *
                generalize args op = n1 at *
                generalize takes op = t at *
                generalize lays op = y at *
                go_wp2_with fail
                refine OF.out.mono ?_
                rintro e w3 ⟨rfl, b3⟩
                have HB3 := hid (b3.trans ((bAl w3 (.cells #[.string wd, .int .i64 n1, .int .i64 t, .int .i64 y] 24)).mono b3.size))
                have z2 : (w3.alloc (.cells #[.string wd, .int .i64 n1, .int .i64 t, .int .i64 y] 24)).cell? ⟨w3.heap.size, 2, none⟩ = some (.int .i64 t) := cell_blk (heap_alloc_new w3 _) rfl
                have z3 : (w3.alloc (.cells #[.string wd, .int .i64 n1, .int .i64 t, .int .i64 y] 24)).cell? ⟨w3.heap.size, 3, none⟩ = some (.int .i64 y) := cell_blk (heap_alloc_new w3 _) rfl
                have x0' := seen HB3.out (Nat.le_refl _) x0
                have x1' := seen HB3.out (Nat.le_refl _) x1
                have x2' := seen HB3.out (Nat.le_refl _) x2
                have yy := seen HB3.out (Nat.le_refl _) y0
                have HO4 := hid (HO.out.later HB3.out)
                clear b3 OF x0 x1 x2 y0 y1
                go_upto_region 17 with fail
                generalize w3.alloc (.cells #[.string wd, .int .i64 n1, .int .i64 t, .int .i64 y] 24) = w4 at *
                generalize w3.heap.size = rb at *
                go_quiet (fail)
                by_cases hok : t ≤ n
                · have hok0 : ¬ (n - t < 0) := by omega
                  by_cases hok2 : n - t + y ≤ 16
                  · have h16 : ¬ (16 < n - t + y) := by omega
                    have RK0 := hid (ENT.out (OKD.out.2 ⟨hok, hok2⟩))
                    clear BAD ENT OKD
                    go_wp2_with fail
                    refine (FW.out _).mono ?_
                    rintro e w5 ⟨r, rfl, hr, b5⟩
                    have HB5 := hid ((Bq (Below.refl _ _) nq : Below w4.heap.size w4 (w4.drewN nq)).trans b5)
                    have FR := hid hr
                    have HO5 := hid (HO4.out.later HB5.out)
                    have GL : Hid (g < (w4.drewN nq).heap.size) := HO4.out.low.2
                    obtain ⟨m, hm⟩ : ∃ m, m = n - t + y := ⟨_, rfl⟩
                    have NXO : nxt X n = m := by rw [hm]; exact NX.out
                    rw [← hm]
                    have hm0 : 0 ≤ m := by omega
                    have hm16 : m ≤ 16 := by omega
                    have FL : Hid (f.length ≤ 2) := by show _ ≤ _; rw [HF.out]; unfold fol; split <;> split <;> simp
                    obtain ⟨fa, fc, rfl, -⟩ := hr
                    clear b5 FW NX hm hok hok0 hok2 h16 x0' x1' x2' z2 z3 yy
                    have hnl : (nats f).length = f.length := by simp [nats]
                    rw [hnl] at FR
                    rw [hnl]
                    go_wp2_with fail
                    go_loopw [8, 14] (fun ag kk wz => ∃ (d2 : List Int) (b2 : Bool) (j : Nat), j ≤ f.length ∧ kk = .int .i64 (j : Int) ∧ ag = .bool b2 ∧ Hid (Rk l d2 (open' d) k b2 X n f j) ∧ Hid (Ov W g cap N d2 wz) ∧ Hid (IRowB (w4.drewN nq).heap.size wz (.slice fa f.length fc) (nats f)) ∧ Hid (w4.heap.size ≤ wz.heap.size)) (fun _ kk _ => f.length - (intOf kk).toNat)
                    case atStart => exact ⟨d', b', 0, Nat.zero_le _, rfl, rfl, RK0, HO5, FR, HB5.out.size⟩
                    case round =>
                      rename World => wz
                      obtain ⟨d2, b2, j, hj, rfl, rfl, HK, HOz, HFz, HSz⟩ := hrel
                      have hfl : (f.length : Int) ≤ 2 := by have := FL.out; omega
                      by_cases hlj : j < f.length
                      · have hji : (j : Int) < (f.length : Int) := by omega
                        obtain ⟨q, hq⟩ := at_lt f j hlj
                        obtain ⟨a2, c2, e2, hl2⟩ := HFz.out
                        simp only [Value.slice.injEq] at e2
                        obtain ⟨rfl, -, rfl⟩ := e2
                        rcases hl2 with h0 | ⟨fb, fo, rfl, hfb, hfc⟩
                        · have := congrArg List.length h0
                          rw [hnl] at this
                          exact absurd this (by show ¬ f.length = 0; omega)
                        have fq : wz.cell? ⟨fb, fo + j, none⟩ = some (.int .i64 (q : Int)) := hfc j (q : Int) (by simp [nats, hq])
                        have hqN : (q : Int) < (N : Int) := by have := HK.out.le NW.out hq; have := EN.out; omega
                        obtain ⟨m2, hm2, hneg2⟩ := HK.out.has NW.out hq
                        obtain ⟨oc, of, -⟩ := HOz.out.cell hm2
                        have HM2 := hid hm2
                        have HQ := hid hq
                        have hm216 := HK.out.rd.bs.hi q m2 hm2
                        clear hfc hq hm2
                        by_cases hm20 : 0 ≤ m2
                        · by_cases hmm : m2 = m
                          · subst hmm
                            have hmb : (m2 == m2) = true := beq_self_eq_true _
                            have hmn : ¬ (m2 < 0) := by omega
                            have NK := hid (HK.out.same HQ.out (by rw [NXO]; exact HM2.out))
                            go_wp2_with fail
                            go_roundw
                            case rel => exact ⟨d2, b2, j + 1, by omega, by go_num, rfl, NK, HOz, HFz, HSz⟩
                            case measure => simp [intOf]; omega
                          · have hmb : (m2 == m) = false := beq_eq_false_iff_ne.2 hmm
                            have NFI := hid (HK.out.no HQ.out HM2.out hm20 (by rw [NXO]; exact hmm))
                            go_wp2_with fail
                            go_ret2
                            exact ⟨_, _, rfl, .inr ⟨rfl, rfl, NFI.out⟩, HOz.out.ou.bel⟩
                        · have hmn : m2 < 0 := by omega
                          have hm1 := hneg2 hmn
                          subst hm1
                          have NK := hid (HK.out.new HQ.out HM2.out)
                          rw [NXO] at NK
                          have NO := hid (HOz.out.put (q := q) (m := m))
                          have NF2 := hid (HFz.out.set (g := g) (q := q) (u := .int .i64 m) GL.out)
                          go_wp2_with fail
                          go_roundw
                          case rel => exact ⟨_, true, j + 1, by omega, by go_num, rfl, NK, NO, NF2, hid (by simpa using HSz.out)⟩
                          case measure => simp [intOf]; omega
                      · have hji : ¬ ((j : Int) < (f.length : Int)) := by omega
                        have NR := hid (HK.out.leave (by omega))
                        go_wp2_with fail
                        go_roundw
                        case rel => exact ⟨d2, b2, k + 1, by omega, rfl, by go_num, NR, HOz⟩
                        case measure => simp [intOf]; omega
                  · have h16 : 16 < n - t + y := by omega
                    have NFI := hid (BAD.out fun ho => hok2 (OKD.out.1 ho).2)
                    clear BAD ENT NX OKD FW
                    go_wp2_with fail
                    go_ret2
                    exact ⟨_, _, rfl, .inr ⟨rfl, rfl, NFI.out⟩, Bq HO4.out.ou.bel _⟩
                · have hok0 : n - t < 0 := by omega
                  have NFI := hid (BAD.out fun ho => hok (OKD.out.1 ho).1)
                  clear BAD ENT NX OKD FW
                  go_wp2_with fail
                  go_ret2
                  exact ⟨_, _, rfl, .inr ⟨rfl, rfl, NFI.out⟩, Bq HO4.out.ou.bel _⟩
            · have hki : ¬ ((k : Int) < (l.length : Int)) := by omega
              obtain rfl : k = l.length := by omega
              have HB2 := hid HR.out.bs
              have HL2 : Hid (b' = false → Lbl l d') := fun h => by subst h; exact HR.out.lbl
              have HM : Hid (2 * open' d' + bump b' < 2 * open' d + bump true) := by
                show _ < _
                have h1 := HR.out.le
                cases b' with
                | false => simp [bump]; omega
                | true => have h2 := HR.out.lt rfl; simp [bump]; omega
              go_wp2_with fail
              go_roundg (2 * open' d' + bump b')
              case rel => exact ⟨d', b', rfl, rfl, HB2, HO, HL2⟩
              case measure => exact HM.out
end Go.Proofs.YtkhhiddemihnbaaDoor.Cw
