/- Badges: Turn. -/
import Derived.Test.YtiebbedpjogjfaaDoorBdBh
namespace Go.Proofs.YtiebbedpjogjfaaDoor.Bd
open Go.RowKit Go.Shelf Go.Maps
section
variable {Ad : Nat → Addr} {B : Nat} {W : World} {bb ob nb : Nat} {n : Int} {l : Prs}
set_option maxHeartbeats 1600000 in
set_option maxRecDepth 100000 in
theorem turn_nil (hE : Env5 W Ad) (next : Int) :
    Calls Tryd.prog 13 #[.pointer none, .int .i64 next] W fun e W' => ∃ t q, e = .returned (.tuple #[.int .i64 0, .iface t q]) ∧ Err Ad W' (.iface t q) 2 1 ∧ Below W.heap.size W W' := by
  have c2 := hE.c2
  have AC := hid (fun str => at_err Ad str _ 2 0 W (err_leaf Ad W 2 (by decide)))
  clear hE
  go_enter Tryd.func13, Tryd.ntmps13
  go_wp2_with fail
  refine (AC.out _).mono ?_
  rintro e w3 ⟨t, q, rfl, hv, hb⟩
  have HV := hid hv
  have B3 := hid hb
  clear hv hb c2 AC
  go_wp2_with fail
  exact bodyPost_ret (v := .tuple #[.int .i64 0, .iface t q]) (by simp [results, Tryd.results13, go_sem]) rfl ⟨t, q, rfl, HV.out, B3.out⟩
/-- Whether a number can be the next one. -/
def turnB (l : Prs) (next : Int) : Bool := decide (1 ≤ next) && decide (next ≤ 1073741825) && decide (∀ x ∈ l, x.1 < next)
set_option maxHeartbeats 1600000 in
set_option maxRecDepth 100000 in
theorem turn_arg (h : Bg B W bb ob nb n l) (hE : Env5 W Ad) (next : Int) (ht : turnB l next = false) :
    Calls Tryd.prog 13 #[.pointer (some ⟨bb, 0, none⟩), .int .i64 next] W fun e W' => ∃ t q, e = .returned (.tuple #[.int .i64 0, .iface t q]) ∧ Err Ad W' (.iface t q) 1 1 ∧ Below W.heap.size W W' := by
  have AB := hid (above_any h next)
  by_cases h1 : next < 1
  · have c1 := hE.c1
    have AC := hid (fun str => at_err Ad str _ 1 0 W (err_leaf Ad W 1 (by decide)))
    clear hE AB ht h
    go_enter Tryd.func13, Tryd.ntmps13
    go_wp2_with fail
    refine (AC.out _).mono ?_
    rintro e w3 ⟨t, q, rfl, hv, hb⟩
    have HV := hid hv
    have B3 := hid hb
    clear hv hb c1 AC
    go_wp2_with fail
    exact bodyPost_ret (v := .tuple #[.int .i64 0, .iface t q]) (by simp [results, Tryd.results13, go_sem]) rfl ⟨t, q, rfl, HV.out, B3.out⟩
  · by_cases h2 : 1073741825 < next
    · have c1 := hE.c1
      have AC := hid (fun str => at_err Ad str _ 1 0 W (err_leaf Ad W 1 (by decide)))
      clear hE AB ht h
      go_enter Tryd.func13, Tryd.ntmps13
      go_wp2_with fail
      refine (AC.out _).mono ?_
      rintro e w3 ⟨t, q, rfl, hv, hb⟩
      have HV := hid hv
      have B3 := hid hb
      clear hv hb c1 AC
      go_wp2_with fail
      exact bodyPost_ret (v := .tuple #[.int .i64 0, .iface t q]) (by simp [results, Tryd.results13, go_sem]) rfl ⟨t, q, rfl, HV.out, B3.out⟩
    · have hf : decide (∀ x ∈ l, x.1 < next) = false := by
        unfold turnB at ht
        rw [decide_eq_true (show 1 ≤ next by omega), decide_eq_true (show next ≤ 1073741825 by omega)] at ht
        simpa using ht
      rw [hf] at AB
      have HE := hid hE
      clear hE ht h hf
      go_enter Tryd.func13, Tryd.ntmps13
      go_wp2_with fail
      refine AB.out.mono ?_
      rintro e w2 ⟨rfl, hb2⟩
      have c1 := (HE.out.later hb2).c1
      have B2 := hid hb2
      have AC := hid (fun str => at_err Ad str _ 1 0 w2 (err_leaf Ad w2 1 (by decide)))
      clear AB hb2
      go_wp2_with fail
      refine (AC.out _).mono ?_
      rintro e w3 ⟨t, q, rfl, hv, hb⟩
      have HV := hid hv
      have B3 := hid (B2.out.trans (hb.mono B2.out.size))
      clear hv hb c1 AC
      go_wp2_with fail
      exact bodyPost_ret (v := .tuple #[.int .i64 0, .iface t q]) (by simp [results, Tryd.results13, go_sem]) rfl ⟨t, q, rfl, HV.out, B3.out⟩
set_option maxHeartbeats 1600000 in
set_option maxRecDepth 100000 in
theorem turn_ok (h : Bg B W bb ob nb n l) (next : Int) (ht : turnB l next = true) :
    Calls Tryd.prog 13 #[.pointer (some ⟨bb, 0, none⟩), .int .i64 next] W fun e W' => e = .returned (.tuple #[.int .i64 n, .nilIface]) ∧ Bg B W' bb ob nb next l ∧ St (fun k => Ft bb ob nb k) W W' := by
  have AB := hid (above_any h next)
  unfold turnB at ht
  simp only [Bool.and_eq_true, decide_eq_true_eq] at ht
  obtain ⟨⟨h1, h2⟩, h3⟩ := ht
  rw [decide_eq_true h3] at AB
  have h1i : ¬ next < 1 := by omega
  have h2i : ¬ 1073741825 < next := by omega
  have H3 := hid h3
  have HH := hid h
  have hb12 := h1
  have hb22 := h2
  clear h3 h
  go_enter Tryd.func13, Tryd.ntmps13
  go_wp2_with fail
  refine AB.out.mono ?_
  rintro e w2 ⟨rfl, hb2⟩
  have g2 := HH.out.later hb2
  have c2 := g2.c2
  have fz := blk_free g2.box 2
  have s3 := St.setCell (S := fun k => k = bb) (a := w2) (p := ⟨bb, 2, none⟩) (.int .i64 next) rfl
  have x3 : (w2.setCell ⟨bb, 2, none⟩ (.int .i64 next)).heap[bb]? = some (.cells #[.map (some ob), .map (some nb), .int .i64 next] 63 (0, 0)) := by
    have := heap_setCell_same w2 bb 2 _ _ (.int .i64 next) g2.box
    simpa using this
  have G3 : Hid (Bg B (w2.setCell ⟨bb, 2, none⟩ (.int .i64 next)) bb ob nb next l) := ⟨x3, g2.m1.kept s3 fun e => g2.ne1 e.symm, g2.m2.kept s3 fun e => g2.ne2 e.symm, g2.ok.turn ⟨hb12, hb22⟩ H3.out, g2.low, g2.ne⟩
  have S3 : Hid (St (fun k => Ft bb ob nb k) W (w2.setCell ⟨bb, 2, none⟩ (.int .i64 next))) := (St.of_below (S := fun k => Ft bb ob nb k) hb2).trans s3 fun x _ e => .inl e
  clear g2 s3 x3 hb2 AB
  go_wp2_with fail
  exact bodyPost_ret (v := .tuple #[.int .i64 n, .nilIface]) (by simp [results, Tryd.results13, go_sem]) rfl ⟨rfl, G3.out, S3.out⟩
end
end Go.Proofs.YtiebbedpjogjfaaDoor.Bd
