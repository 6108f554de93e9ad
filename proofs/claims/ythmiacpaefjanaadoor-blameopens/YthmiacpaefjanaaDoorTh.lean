/- BlameParts: the walk. -/
import Derived.Test.YthmiacpaefjanaaDoorTg
namespace Go.Proofs.YthmiacpaefjanaaDoor
open Go.RowKit Go.Shelf
theorem Below.drewN {B : Nat} {w w' : World} (h : Below B w w') (n : Nat) : Below B w (w'.drewN n) := h.trans ⟨rfl, rfl, rfl, Nat.le_refl _, fun _ _ => rfl⟩
set_option maxHeartbeats 4000000 in
set_option maxRecDepth 100000 in
theorem parts_law (Ad : Nat → Addr) (w : World) (v : Value) (rs : List (Value × List Twg)) (o1 o2 : Int) (hE : Env w Ad) (h : Rows2 w v rs) :
    Calls Tryd.prog 5 #[v, .int .i64 o1, .int .i64 o2] w fun e w' => e = .returned (.bool true) ∧ Below w.heap.size w w' := by
  have HE := hid hE
  have HR := hid h
  have AC := hid (awake_any w Ad hE)
  obtain ⟨⟨a, c, rfl, -⟩, -⟩ := h
  clear hE
  go_enter Tryd.func5, Tryd.ntmps5
  go_wp2_with fail
  refine AC.out.mono ?_
  rintro e w1 ⟨rfl, hb1⟩
  have B1 := hid hb1
  have GC := hid (great_any w1 _ rs (HR.out.later hb1))
  clear hb1 AC
  go_wp2_with fail
  refine GC.out.mono ?_
  rintro e w1 ⟨⟨g, rfl, hsm⟩, rfl⟩
  cases g with
  | true =>
    clear hsm
    go_wp2_with fail
    go_ret
    exact ⟨rfl, B1.out⟩
  | false =>
    have HS := hid (hsm rfl)
    have hl20 : (leaves2 rs).length ≤ 20 := Nat.le_trans (leaves2_len rs) HS.out.1
    have SM := hid (leaves2_small HS.out)
    have C1 := hid (bunch_any Ad w1 _ rs o1 (HE.out.later B1.out) (HR.out.later B1.out) HS.out)
    clear hsm GC
    go_wp2_with fail
    refine C1.out.mono ?_
    rintro e w2 ⟨v2, rfl, t2, hb2⟩
    have B2 := hid (B1.out.trans (hb2.mono B1.out.size))
    have L2 := hid (leaves_any Ad v2 _ 12 w2 (HE.out.later B2.out) t2.tr (by omega) SM.out (by omega))
    clear t2 hb2 C1
    go_wp2_with fail
    refine L2.out.mono ?_
    rintro e w3 ⟨x3, rfl, ho3, hb3⟩
    have B3 := hid (B2.out.trans (hb3.mono B2.out.size))
    have O3 := hid ho3
    obtain ⟨xa, xc, rfl⟩ := own_slice ho3
    have C2 := hid (bunch_any Ad w3 _ rs o2 (HE.out.later B3.out) (HR.out.later B3.out) HS.out)
    clear ho3 hb3 L2
    go_wp2_with fail
    refine C2.out.mono ?_
    rintro e w4 ⟨v4, rfl, t4, hb4⟩
    have B4 := hid (B3.out.trans (hb4.mono B3.out.size))
    have B34 := hid hb4
    have L4 := hid (leaves_any Ad v4 _ 12 w4 (HE.out.later B4.out) t4.tr (by omega) SM.out (by omega))
    clear t4 hb4 C2
    go_wp2_with fail
    refine L4.out.mono ?_
    rintro e w5 ⟨y5, rfl, ho5, hb5⟩
    have B5 := hid (B4.out.trans (hb5.mono B4.out.size))
    have B35 := hid (B34.out.trans (hb5.mono B34.out.size))
    have O5 := hid ho5
    obtain ⟨ya, yc, rfl⟩ := own_slice ho5
    obtain ⟨ls, hls⟩ : ∃ ls, ls = leaves2 rs := ⟨_, rfl⟩
    rw [← hls] at O3 O5 hl20 ⊢
    clear ho5 hb5 L4 SM hls HS B34 B4 B3 B2
    have hl20i : (ls.length : Int) ≤ 20 := by omega
    go_wp2_with fail
    go_loopw [9] (fun i wr => ∃ k : Nat, k ≤ ls.length ∧ i = .int .i64 (k : Int) ∧ Below w5.heap.size w5 wr) (fun i _ => ls.length - (intOf i).toNat)
    case atStart => exact ⟨0, Nat.zero_le _, rfl, Below.refl _ _⟩
    case round =>
      obtain ⟨k, hk, rfl, hb⟩ := hrel
      have HB := hid hb
      clear hb
      by_cases hlt : k < ls.length
      · have hki : (k : Int) < (ls.length : Int) := by omega
        obtain ⟨p, hp⟩ := at_lt ls k hlt
        obtain ⟨e1, e2⟩ := leafCells_at ls k p hp
        obtain ⟨g3, d3, f3, -, hg3⟩ := World.ownsRow.form O3.out (by omega)
        obtain ⟨g5, d5, f5, -, hg5⟩ := World.ownsRow.form O5.out (by omega)
        have O3' := O3.out
        have O5' := O5.out
        rw [f3] at O3'
        rw [f5] at O5'
        have c1 : wr.cell? ⟨g3, k * 2, none⟩ = some (.string (joinB p.1)) := (HB.out.cell (p := ⟨g3, k * 2, none⟩) (Nat.lt_of_lt_of_le hg3 B35.out.size)).trans ((B35.out.cell (p := ⟨g3, k * 2, none⟩) hg3).trans ((O3'.cellAt (k * 2) (by omega)).trans e1))
        have c2 : wr.cell? ⟨g3, k * 2 + 1, none⟩ = some (.int .i64 (p.2 : Int)) := (HB.out.cell (p := ⟨g3, k * 2 + 1, none⟩) (Nat.lt_of_lt_of_le hg3 B35.out.size)).trans ((B35.out.cell (p := ⟨g3, k * 2 + 1, none⟩) hg3).trans ((O3'.cellAt (k * 2 + 1) (by omega)).trans e2))
        have c3 : wr.cell? ⟨g5, k * 2, none⟩ = some (.string (joinB p.1)) := (HB.out.cell (p := ⟨g5, k * 2, none⟩) hg5).trans ((O5'.cellAt (k * 2) (by omega)).trans e1)
        have c4 : wr.cell? ⟨g5, k * 2 + 1, none⟩ = some (.int .i64 (p.2 : Int)) := (HB.out.cell (p := ⟨g5, k * 2 + 1, none⟩) hg5).trans ((O5'.cellAt (k * 2 + 1) (by omega)).trans e2)
        obtain ⟨rfl, rfl⟩ : xa = some ⟨g3, 0, none⟩ ∧ xc = d3 := by simpa using f3
        obtain ⟨rfl, rfl⟩ : ya = some ⟨g5, 0, none⟩ ∧ yc = d5 := by simpa using f5
        have nq := neqS (joinB p.1) (p.2 : Int)
        clear O3' O5' f3 f5 e1 e2 hp
        go_wp2_with fail
        go_quiet (fail)
        go_wp2_with fail
        go_roundw
        case rel => exact ⟨k + 1, by omega, by go_num, Below.drewN HB.out _⟩
        case measure => simp [intOf]; omega
      · have hki : ¬ ((k : Int) < (ls.length : Int)) := by omega
        go_wp2_with fail
        go_ret
        exact ⟨rfl, B5.out.trans (HB.out.mono B5.out.size)⟩
end Go.Proofs.YthmiacpaefjanaaDoor
