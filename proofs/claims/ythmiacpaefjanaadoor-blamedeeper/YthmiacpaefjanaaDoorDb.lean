/- BlameDeeper: the walk. -/
import Derived.Test.YthmiacpaefjanaaDoorTh
import Derived.Test.YthmiacpaefjanaaDoorRb
namespace Go.Proofs.YthmiacpaefjanaaDoor
open Go.RowKit Go.Shelf
theorem join_le9 (ws : List ByteArray) (h : ∀ x ∈ ws, x.size ≤ 100) (hl : ws.length ≤ 20) : (joinB ws).size ≤ 99000 := by
  have e : (joinB ws).size = (Lib.join (ws.map (·.data.toList)) [47]).length := by simp [joinB, ByteArray.size]
  rw [e]
  cases ws with
  | nil => simp [Lib.join_nil]
  | cons x r =>
    rw [List.map_cons, Lib.join_length]
    have := lens_le (x.data.toList :: r.map (·.data.toList)) 100 (by
      intro y hy
      rw [← List.map_cons (f := fun b : ByteArray => b.data.toList)] at hy
      obtain ⟨b, hb, rfl⟩ := List.mem_map.1 hy
      show b.data.toList.length ≤ 100
      rw [Array.length_toList]
      exact h b hb)
    simp only [List.length_cons, List.length_map, List.length_nil] at this hl ⊢
    omega
theorem leafOf_deep {ts : List Twg} (h : SmallT ts) : ∀ p ∈ leafOf ts, (joinB p.1).size ≤ 99000 ∧ p.1.length ≤ 900 := by
  intro p hp
  have hw : p.1 = ways (ts.take (endAt ts)) := by
    unfold leafOf at hp
    split at hp
    · split at hp
      · simp at hp; rw [hp]
      · simp at hp
    · simp at hp
  have hl := ways_len (ts.take (endAt ts))
  rw [List.length_take] at hl
  have h12 := h.1
  rw [hw]
  refine ⟨?_, by omega⟩
  refine join_le9 _ (fun x hx => ?_) (by omega)
  unfold ways at hx
  obtain ⟨t, ht, rfl⟩ := List.mem_map.1 hx
  exact h.2 t (List.mem_of_mem_take (List.mem_filter.1 ht).1)
theorem leaves2_deep {rs : List (Value × List Twg)} (h : SmallR rs) : ∀ p ∈ leaves2 rs, (joinB p.1).size ≤ 99000 ∧ p.1.length ≤ 900 := by
  intro p hp
  unfold leaves2 at hp
  obtain ⟨l, hl, hp⟩ := List.mem_flatten.1 hp
  obtain ⟨r, hr, rfl⟩ := List.mem_map.1 hl
  exact leafOf_deep (h.2 r hr) p hp
set_option maxHeartbeats 4000000 in
set_option maxRecDepth 100000 in
theorem deeper_law (Ad : Nat → Addr) (w : World) (s : ByteArray) (v : Value) (rs : List (Value × List Twg)) (hE : Env w Ad) (h : Rows2 w v rs) :
    Calls Tryd.prog 6 #[.string s, v] w fun e w' => e = .returned (.bool true) ∧ Below w.heap.size w w' := by
  have HE := hid hE
  have HR := hid h
  have AC := hid (awake_any w Ad hE)
  obtain ⟨⟨a, c, rfl, -⟩, -⟩ := h
  clear hE
  go_enter Tryd.func6, Tryd.ntmps6
  go_wp2_with fail
  refine AC.out.mono ?_
  rintro e w1 ⟨rfl, hb1⟩
  have B1 := hid hb1
  have GC := hid (great_any w1 _ rs (HR.out.later hb1))
  clear hb1 AC
  go_wp2_with fail
  refine GC.out.mono ?_
  rintro e w1 ⟨⟨g, rfl, hsm⟩, rfl⟩
  cases g with
  | true =>
    clear hsm
    go_wp2_with fail
    go_ret
    exact ⟨rfl, B1.out⟩
  | false =>
    have HS := hid (hsm rfl)
    by_cases h100 : 100 < s.size
    · have h100i : (100 : Int) < (s.size : Int) := by omega
      clear hsm GC
      go_wp2_with fail
      go_ret
      exact ⟨rfl, B1.out⟩
    · have h100i : ¬ ((100 : Int) < (s.size : Int)) := by omega
      have hl20 : (leaves2 rs).length ≤ 20 := Nat.le_trans (leaves2_len rs) HS.out.1
      have SM := hid (leaves2_small HS.out)
      have SMX := hid (leaves2_deep HS.out)
      have C1 := hid (bunch_any Ad w1 _ rs 3 (HE.out.later B1.out) (HR.out.later B1.out) HS.out)
      clear hsm GC
      go_wp2_with fail
      refine C1.out.mono ?_
      rintro e w2 ⟨v2, rfl, t2, hb2⟩
      have B2 := hid (B1.out.trans (hb2.mono B1.out.size))
      have T2 := hid t2
      have L2 := hid (leaves_any Ad v2 _ 12 w2 (HE.out.later B2.out) t2.tr (by omega) SM.out (by omega))
      clear t2 hb2 C1
      go_wp2_with fail
      refine L2.out.mono ?_
      rintro e w3 ⟨x3, rfl, ho3, hb3⟩
      have B3 := hid (B2.out.trans (hb3.mono B2.out.size))
      have O3 := hid ho3
      obtain ⟨xa, xc, rfl⟩ := own_slice ho3
      have C2 := hid (at_top Ad s 12 v2 _ w3 (T2.out.later hb3))
      clear ho3 hb3 L2 T2
      go_wp2_with fail
      refine C2.out.mono ?_
      rintro e w4 ⟨v4, rfl, t4, hb4⟩
      have B4 := hid (B3.out.trans (hb4.mono B3.out.size))
      have B34 := hid hb4
      have SM4 : Hid (∀ p ∈ (leaves2 rs).map (fun p => (s :: p.1, p.2)), (joinB p.1).size ≤ 100000 ∧ p.1.length ≤ 1000) := by
        intro q hq
        obtain ⟨p, hp, rfl⟩ := List.mem_map.1 hq
        have h1 := leaves2_deep HS.out p hp
        have h2 := joinB_max s p.1
        exact ⟨by show (joinB (s :: p.1)).size ≤ _; omega, by show (s :: p.1).length ≤ _; rw [List.length_cons]; omega⟩
      have L4 := hid (leaves_any Ad v4 _ 13 w4 (HE.out.later B4.out) t4 (by omega) SM4.out (by simp; omega))
      rw [List.length_map] at L4
      clear t4 hb4 C2
      go_wp2_with fail
      refine L4.out.mono ?_
      rintro e w5 ⟨y5, rfl, ho5, hb5⟩
      have B5 := hid (B4.out.trans (hb5.mono B4.out.size))
      have B35 := hid (B34.out.trans (hb5.mono B34.out.size))
      have O5 := hid ho5
      obtain ⟨ya, yc, rfl⟩ := own_slice ho5
      obtain ⟨ls, hls⟩ : ∃ ls, ls = leaves2 rs := ⟨_, rfl⟩
      rw [← hls] at O3 O5 hl20 SMX ⊢
      clear ho5 hb5 L4 SM hls HS B34 B4 B3 B2 SM4
      have hl20i : (ls.length : Int) ≤ 20 := by omega
      go_wp2_with fail
      go_loopw [8] (fun i wr => ∃ k : Nat, k ≤ ls.length ∧ i = .int .i64 (k : Int) ∧ Below w5.heap.size w5 wr) (fun i _ => ls.length - (intOf i).toNat)
      case atStart => exact ⟨0, Nat.zero_le _, rfl, Below.refl _ _⟩
      case round =>
        obtain ⟨k, hk, rfl, hb⟩ := hrel
        have HB := hid hb
        clear hb
        by_cases hlt : k < ls.length
        · have hki : (k : Int) < (ls.length : Int) := by omega
          obtain ⟨p, hp⟩ := at_lt ls k hlt
          have HP := hid hp
          obtain ⟨e1, e2⟩ := leafCells_at ls k p hp
          obtain ⟨e3, e4⟩ := leafCells_at (ls.map fun p => (s :: p.1, p.2)) k (s :: p.1, p.2) (by simp [hp])
          obtain ⟨g3, d3, f3, -, hg3⟩ := World.ownsRow.form O3.out (by omega)
          obtain ⟨g5, d5, f5, -, hg5⟩ := World.ownsRow.form O5.out (by omega)
          have O3' := O3.out
          have O5' := O5.out
          rw [f3] at O3'
          rw [f5] at O5'
          have c1 : wr.cell? ⟨g3, k * 2, none⟩ = some (.string (joinB p.1)) := (HB.out.cell (p := ⟨g3, k * 2, none⟩) (Nat.lt_of_lt_of_le hg3 B35.out.size)).trans ((B35.out.cell (p := ⟨g3, k * 2, none⟩) hg3).trans ((O3'.cellAt (k * 2) (by omega)).trans e1))
          have c2 : wr.cell? ⟨g3, k * 2 + 1, none⟩ = some (.int .i64 (p.2 : Int)) := (HB.out.cell (p := ⟨g3, k * 2 + 1, none⟩) (Nat.lt_of_lt_of_le hg3 B35.out.size)).trans ((B35.out.cell (p := ⟨g3, k * 2 + 1, none⟩) hg3).trans ((O3'.cellAt (k * 2 + 1) (by omega)).trans e2))
          have c3 : wr.cell? ⟨g5, k * 2, none⟩ = some (.string (joinB (s :: p.1))) := (HB.out.cell (p := ⟨g5, k * 2, none⟩) hg5).trans ((O5'.cellAt (k * 2) (by omega)).trans e3)
          have c4 : wr.cell? ⟨g5, k * 2 + 1, none⟩ = some (.int .i64 (p.2 : Int)) := (HB.out.cell (p := ⟨g5, k * 2 + 1, none⟩) hg5).trans ((O5'.cellAt (k * 2 + 1) (by omega)).trans e4)
          obtain ⟨rfl, rfl⟩ : xa = some ⟨g3, 0, none⟩ ∧ xc = d3 := by simpa using f3
          obtain ⟨rfl, rfl⟩ : ya = some ⟨g5, 0, none⟩ ∧ yc = d5 := by simpa using f5
          clear O3' O5' f3 f5 e1 e2 e3 e4 hp
          have hs1 : Hid (s.size ≤ (joinB (s :: p.1)).size) := joinB_size s p.1
          have hx0 : Hid ((joinB (s :: p.1)).extract 0 s.size = s) := joinB_head s p.1
          have ht0 : Hid (s.size < (joinB (s :: p.1)).size → (joinB (s :: p.1)).extract s.size (joinB (s :: p.1)).size = ⟨#[47]⟩ ++ joinB p.1) := joinB_tail s p.1
          have hxs : (joinB p.1).size ≤ 99000 := (SMX.out p (List.mem_of_getElem? HP.out)).1
          have hxi : ((joinB p.1).size : Int) ≤ 99000 := by omega
          generalize joinB (s :: p.1) = y at *
          generalize joinB p.1 = x at *
          have hx := hx0.out
          have hsz : ¬ ((y.size : Int) < (s.size : Int)) := by have := hs1.out; omega
          have hsz1 : s.size ≤ y.size := hs1.out
          by_cases hgt : s.size < y.size
          · have htl := ht0.out hgt
            have hd1 : decide (y.size < s.size) = false := decide_eq_false (by omega)
            have hd2 : decide (s.size < y.size) = true := decide_eq_true hgt
            go_wp2_with fail
            go_quiet (fail)
            go_wp2_with fail
            go_roundw
            case rel => exact ⟨k + 1, by omega, by go_num, Below.drewN HB.out _⟩
            case measure => simp [intOf]; omega
          · have hd1 : decide (y.size < s.size) = false := decide_eq_false (by omega)
            have hd2 : decide (s.size < y.size) = false := decide_eq_false hgt
            go_wp2_with fail
            go_quiet (fail)
            go_wp2_with fail
            go_roundw
            case rel => exact ⟨k + 1, by omega, by go_num, Below.drewN HB.out _⟩
            case measure => simp [intOf]; omega
        · have hki : ¬ ((k : Int) < (ls.length : Int)) := by omega
          go_wp2_with fail
          go_ret
          exact ⟨rfl, B5.out.trans (HB.out.mono B5.out.size)⟩
end Go.Proofs.YthmiacpaefjanaaDoor
