/- What the cards of the journal use: the door's own heap meets the rows' list; what comes in, read. -/
import Derived.Test.YtnbgjbdbbmpoaaaDoorJoPa
import Derived.Test.YtnbgjbdbbmpoaaaDoorCards
import Derived.Test.YtnbgjbdbbmpoaaaDoorTie
import Derived.ProofKit
import Derived.LaidMore
import Derived.OpenShut
import Derived.Deep.Grids
import Derived.SevenTiedAt
import Derived.ChangeMaps5
import Derived.Stop.Joined
import Derived.Stop.LaidErr
import Derived.Stop.LaidTwo
namespace Go.Proofs.YtnbgjbdbbmpoaaaDoor.Jo
open Go.ChangeShapes Go.WideShapes Go.ChangeAt Go.RowKit Go.Shelf
theorem door_met5 (os : Os) (args : Array Value) : laidMetH Tryd.prog Rows.journalStacksRow.laid ((World.doorLaid Tryd.prog 351 os).forCall (fun _ _ => 0) ⟨#[], args, []⟩).memory :=
  laidMetH_of_parts3 (fuel := 8) (laidMet_of_run' 8 (by kernel_rfl) (by kernel_rfl)) (by kernel_rfl) (by kernel_rfl)
theorem Tryd.own : ownKnob Tryd.prog.godebug = none := by kernel_rfl
theorem Tryd.laidOut : laidOutB Tryd.prog = true := by kernel_rfl
theorem kl_cellsS : Tryd.prog.cellsOf 155 = 1 := by kernel_rfl
theorem kl_cells9 : Tryd.prog.cellsOf 9 = 1 := by kernel_rfl
theorem kl_star : "*" ++ "errors.errorString" = "*errors.errorString" := by decide
theorem kl_row (u : TypeId) (h : Tryd.prog.typeName? 3 u = some "*errors.errorString") : u = 130 :=
  typeName_ptr_named (nm := "errors.errorString") (by rw [kl_star]; kernel_rfl) (by kernel_rfl) (by decide) u (by rw [kl_star]; exact h)
theorem kl_g1 : Tryd.prog.globalNamed "pasodoble/api.ErrArg" = some 0 := by kernel_rfl
theorem kl_t1 : (Tryd.prog.globals[0]?).map (·.type) = some 27 := by kernel_rfl
theorem kl_g2 : Tryd.prog.globalNamed "pasodoble/api.ErrNil" = some 1 := by kernel_rfl
theorem kl_t2 : (Tryd.prog.globals[1]?).map (·.type) = some 27 := by kernel_rfl
theorem kl_g6 : Tryd.prog.globalNamed "pasodoble/api.ErrFull" = some 4 := by kernel_rfl
theorem kl_t6 : (Tryd.prog.globals[4]?).map (·.type) = some 27 := by kernel_rfl
theorem kl_g8 : Tryd.prog.globalNamed "pasodoble/api.ErrState" = some 2 := by kernel_rfl
theorem kl_t8 : (Tryd.prog.globals[2]?).map (·.type) = some 27 := by kernel_rfl
theorem kl_g16 : Tryd.prog.globalNamed "pasodoble/api.ErrRange" = some 3 := by kernel_rfl
theorem kl_t16 : (Tryd.prog.globals[3]?).map (·.type) = some 27 := by kernel_rfl
/-- What is known of one sentinel. -/
def OneK (W : World) (g : Nat) (t : List UInt8) (a : Addr) : Prop := W.cell? ⟨g, 0, none⟩ = some (.iface 130 (.pointer (some a))) ∧ SenK W a ∧ ∃ s : ByteArray, W.cell? a = some (.string s) ∧ s.data.toList = t
theorem two_of {n0 n1 : String} {text0 text1 : List UInt8} {r : List (String × DataW Unit)} {W : World} {g0 g1 : Nat}
    (h : laidMet Tryd.prog ((n0, .iface "*errors.errorString" (.ptr (.agg [.lit (.string text0)]))) :: (n1, .iface "*errors.errorString" (.ptr (.agg [.lit (.string text1)]))) :: r) W)
    (hg0 : Tryd.prog.globalNamed n0 = some g0) (ht0 : (Tryd.prog.globals[g0]?).map (·.type) = some 27) (hg1 : Tryd.prog.globalNamed n1 = some g1) (ht1 : (Tryd.prog.globals[g1]?).map (·.type) = some 27) : (∃ a, OneK W g0 text0 a) ∧ ∃ a, OneK W g1 text1 a := by
  obtain ⟨a0, a1, s0, s1, c0, c1, t0, t1, v0, v1, e0, x0, _, e1, x1, _, _, b0, b1⟩ := laid_sentinels2 h hg0 ht0 hg1 ht1 Tryd.underlying27 kl_row Tryd.underlying130 Tryd.underlying155 rfl rfl Tryd.underlying9 kl_cellsS kl_cells9
  exact ⟨⟨a0, World.var?_cell hg0 v0 0, ⟨c0, t0, b0⟩, s0, e0, x0⟩, a1, World.var?_cell hg1 v1 0, ⟨c1, t1, b1⟩, s1, e1, x1⟩
theorem ne_of_text {W : World} {g g' : Nat} {t t' : List UInt8} {a a' : Addr} (h : OneK W g t a) (h' : OneK W g' t' a') (hne : t ≠ t') : a ≠ a' := fun e => by
  obtain ⟨_, _, s, c, x⟩ := h
  obtain ⟨_, _, s', c', x'⟩ := h'
  rw [e, c'] at c
  simp only [Option.some.injEq, Value.string.injEq] at c
  rw [← c, x'] at x
  exact hne x.symm
def ad5 (a1 a2 a6 a8 a16 : Addr) (k : Nat) : Addr := if k = 1 then a1 else if k = 2 then a2 else if k = 6 then a6 else if k = 8 then a8 else a16
theorem env5_of {W : World} (h : laidMetH Tryd.prog Rows.journalStacksRow.laid W) : ∃ Ad, Env8 W Ad := by
  rw [MakeChecks.laidMetH_plain _ _ _ (by kernel_rfl)] at h
  have h' : laidMet Tryd.prog [("pasodoble/api.ErrArg", Rows.laid_pasodoble_api_ErrArg), ("pasodoble/api.ErrNil", Rows.laid_pasodoble_api_ErrNil), ("pasodoble/api.ErrFull", Rows.laid_pasodoble_api_ErrFull), ("pasodoble/api.ErrState", Rows.laid_pasodoble_api_ErrState), ("pasodoble/api.ErrRange", Rows.laid_pasodoble_api_ErrRange)] W := h
  obtain ⟨⟨a1, h1⟩, a2, h2⟩ := two_of h' kl_g1 kl_t1 kl_g2 kl_t2
  obtain ⟨⟨a6, h6⟩, a8, h8⟩ := two_of h'.tail.tail kl_g6 kl_t6 kl_g8 kl_t8
  obtain ⟨-, a16, h16⟩ := two_of h'.tail.tail.tail kl_g8 kl_t8 kl_g16 kl_t16
  have n1_2 := ne_of_text h1 h2 (by decide)
  have n1_6 := ne_of_text h1 h6 (by decide)
  have n1_8 := ne_of_text h1 h8 (by decide)
  have n1_16 := ne_of_text h1 h16 (by decide)
  have n2_6 := ne_of_text h2 h6 (by decide)
  have n2_8 := ne_of_text h2 h8 (by decide)
  have n2_16 := ne_of_text h2 h16 (by decide)
  have n6_8 := ne_of_text h6 h8 (by decide)
  have n6_16 := ne_of_text h6 h16 (by decide)
  have n8_16 := ne_of_text h8 h16 (by decide)
  have F : ∀ {P : Nat → Prop}, P 1 → P 2 → P 6 → P 8 → P 16 → ∀ k ∈ eight, P k := by
    intro P p1 p2 p6 p8 p16 k hk
    simp only [eight, List.mem_cons, List.not_mem_nil, or_false] at hk
    rcases hk with rfl | rfl | rfl | rfl | rfl <;> assumption
  have C := F (P := fun k => W.cell? ⟨gv k, 0, none⟩ = some (.iface 130 (.pointer (some (ad5 a1 a2 a6 a8 a16 k))))) h1.1 h2.1 h6.1 h8.1 h16.1
  have S := F (P := fun k => SenK W (ad5 a1 a2 a6 a8 a16 k)) h1.2.1 h2.2.1 h6.2.1 h8.2.1 h16.2.1
  have I : ∀ i ∈ eight, ∀ j ∈ eight, ad5 a1 a2 a6 a8 a16 i = ad5 a1 a2 a6 a8 a16 j → i = j := by
    refine F (F ?_ ?_ ?_ ?_ ?_) (F ?_ ?_ ?_ ?_ ?_) (F ?_ ?_ ?_ ?_ ?_) (F ?_ ?_ ?_ ?_ ?_) (F ?_ ?_ ?_ ?_ ?_)
    all_goals simp [ad5]
    all_goals first | exact n1_2 | exact n1_2.symm | exact n1_6 | exact n1_6.symm | exact n1_8 | exact n1_8.symm | exact n1_16 | exact n1_16.symm | exact n2_6 | exact n2_6.symm | exact n2_8 | exact n2_8.symm | exact n2_16 | exact n2_16.symm | exact n6_8 | exact n6_8.symm | exact n6_16 | exact n6_16.symm | exact n8_16 | exact n8_16.symm
  exact ⟨_, fun k hk _ => C k hk, fun k hk _ => S k hk, fun i j hi hj => I i hi j hj⟩
theorem add_plain3 (b o j : Nat) : (⟨b, o, none⟩ : Addr).add j = ⟨b, o + j, none⟩ := by unfold Addr.add; split <;> simp_all
set_option maxRecDepth 100000 in
theorem irow_in {H : Type} {enc : TypeId × Value → H} {W : World} {fuel : Nat} {c : Value} {d : DataW H × List MemPlace} (hf : DataW.trod enc Tryd.prog W 0 (fun _ => true) true fuel 53 [c] = some d) :
    ∃ ts, IRow W c ts := by
  rcases Deep.open_slice Tryd.underlying53 hf with ⟨h1, h2⟩ | ⟨a, len, cap, m, n, D, Pl, h1, _, hl, _, hm, hx, hel⟩
  · exact ⟨[], none, 0, by simpa using h1, .inl rfl⟩
  · simp only [if_true] at hm
    subst hm
    rw [cellsI] at hel
    obtain ⟨X, hX⟩ := Deep.choose_lt (α := Int) (n := len) (p := fun i q => W.cells? 0 (a.add (i * 1)) 1 = some [.int .i64 q]) (fun i hi => by
      obtain ⟨cs', hc1, hc2⟩ := hel i (by omega)
      obtain ⟨y, e, _, _⟩ := DataW.trod_int Tryd.underlying3 hc2
      subst e
      exact ⟨y, hc1⟩)
    refine ⟨(List.range len).map X, some a, m, by simpa using h1, ?_⟩
    by_cases h0 : len = 0
    · left; subst h0; rfl
    · right
      obtain ⟨b, o, spot⟩ := a
      have hspot : spot = none := by
        have h5 := (World.cells?_some (hX 0 (by omega))).2.2 0 (by decide)
        have h6 : W.cell? ((⟨b, o, spot⟩ : Addr)) = some (.int .i64 (X 0)) := by simpa [Addr.add] using h5
        exact World.cell?_spot h6
      subst hspot
      refine ⟨b, o, rfl, fun j x hj => ?_⟩
      have hjl : j < len := by
        have := (List.getElem?_eq_some_iff.1 hj).1
        simpa using this
      have hxe : x = X j := by simpa [hjl] using hj.symm
      subst hxe
      have h5 := (World.cells?_some (hX j hjl)).2.2
      have e0 := h5 0 (by decide)
      rw [Deep.add_add, add_plain3] at e0
      simpa using e0
theorem ints_of {H : Type} {enc : TypeId × Value → H} {W : World} {v : Value} {d : DataW H} {ps : List MemPlace} (h : DataW.Trod enc Tryd.prog W 0 (fun _ => true) true 53 v d ps) (hv : ∃ a l c, v = .slice a l c) :
    ∃ cl, IRow W v cl := by
  obtain ⟨fuel, hf⟩ := h
  obtain ⟨a0, l0, c0, rfl⟩ := hv
  exact irow_in (c := .slice a0 l0 c0) (by simpa [Value.cells] using hf)
end Go.Proofs.YtnbgjbdbbmpoaaaDoor.Jo
