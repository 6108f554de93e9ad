/- What the cards of code use: the door's own heap meets the rows' list; what comes in, read. -/
import Derived.Test.YtkhhiddemihnbaaDoorCwDc
import Derived.Test.YtkhhiddemihnbaaDoorCards
import Derived.Test.YtkhhiddemihnbaaDoorTie
import Derived.ProofKit
import Derived.LaidMore
import Derived.OpenShut
import Derived.Deep.Grids
import Derived.SevenTiedAt
import Derived.ChangeMaps5
import Derived.Stop.Joined
import Derived.Stop.LaidErr
import Derived.Stop.LaidTwo
namespace Go.Proofs.YtkhhiddemihnbaaDoor.Cw
open Go.ChangeShapes Go.WideShapes Go.ChangeAt Go.RowKit Go.Shelf
theorem door_met5 (os : Os) (args : Array Value) : laidMetH Tryd.prog Rows.codeWordsRow.laid ((World.doorLaid Tryd.prog 407 os).forCall (fun _ _ => 0) ⟨#[], args, []⟩).memory :=
  laidMetH_of_parts3 (fuel := 8) (laidMet_of_run' 8 (by kernel_rfl) (by kernel_rfl)) (by kernel_rfl) (by kernel_rfl)
theorem Tryd.own : ownKnob Tryd.prog.godebug = none := by kernel_rfl
theorem Tryd.laidOut : laidOutB Tryd.prog = true := by kernel_rfl
theorem kl_cellsS : Tryd.prog.cellsOf 185 = 1 := by kernel_rfl
theorem kl_cells9 : Tryd.prog.cellsOf 9 = 1 := by kernel_rfl
theorem kl_star : "*" ++ "errors.errorString" = "*errors.errorString" := by decide
theorem kl_row (u : TypeId) (h : Tryd.prog.typeName? 3 u = some "*errors.errorString") : u = 163 :=
  typeName_ptr_named (nm := "errors.errorString") (by rw [kl_star]; kernel_rfl) (by kernel_rfl) (by decide) u (by rw [kl_star]; exact h)
theorem kl_g1 : Tryd.prog.globalNamed "pasodoble/api.ErrArg" = some 4 := by kernel_rfl
theorem kl_t1 : (Tryd.prog.globals[4]?).map (·.type) = some 42 := by kernel_rfl
theorem kl_g4 : Tryd.prog.globalNamed "pasodoble/api.ErrLong" = some 2 := by kernel_rfl
theorem kl_t4 : (Tryd.prog.globals[2]?).map (·.type) = some 42 := by kernel_rfl
theorem kl_g12 : Tryd.prog.globalNamed "pasodoble/api.ErrStack" = some 0 := by kernel_rfl
theorem kl_t12 : (Tryd.prog.globals[0]?).map (·.type) = some 42 := by kernel_rfl
theorem kl_g13 : Tryd.prog.globalNamed "pasodoble/api.ErrJump" = some 5 := by kernel_rfl
theorem kl_t13 : (Tryd.prog.globals[5]?).map (·.type) = some 42 := by kernel_rfl
theorem kl_g14 : Tryd.prog.globalNamed "pasodoble/api.ErrOp" = some 3 := by kernel_rfl
theorem kl_t14 : (Tryd.prog.globals[3]?).map (·.type) = some 42 := by kernel_rfl
/-- What is known of one sentinel. -/
def OneK (W : World) (g : Nat) (t : List UInt8) (a : Addr) : Prop := W.cell? ⟨g, 0, none⟩ = some (.iface 163 (.pointer (some a))) ∧ SenK W a ∧ ∃ s : ByteArray, W.cell? a = some (.string s) ∧ s.data.toList = t
theorem two_of {n0 n1 : String} {text0 text1 : List UInt8} {r : List (String × DataW Unit)} {W : World} {g0 g1 : Nat}
    (h : laidMet Tryd.prog ((n0, .iface "*errors.errorString" (.ptr (.agg [.lit (.string text0)]))) :: (n1, .iface "*errors.errorString" (.ptr (.agg [.lit (.string text1)]))) :: r) W)
    (hg0 : Tryd.prog.globalNamed n0 = some g0) (ht0 : (Tryd.prog.globals[g0]?).map (·.type) = some 42) (hg1 : Tryd.prog.globalNamed n1 = some g1) (ht1 : (Tryd.prog.globals[g1]?).map (·.type) = some 42) : (∃ a, OneK W g0 text0 a) ∧ ∃ a, OneK W g1 text1 a := by
  obtain ⟨a0, a1, s0, s1, c0, c1, t0, t1, v0, v1, e0, x0, _, e1, x1, _, _, b0, b1⟩ := laid_sentinels2 h hg0 ht0 hg1 ht1 Tryd.underlying42 kl_row Tryd.underlying163 Tryd.underlying185 rfl rfl Tryd.underlying9 kl_cellsS kl_cells9
  exact ⟨⟨a0, World.var?_cell hg0 v0 0, ⟨c0, t0, b0⟩, s0, e0, x0⟩, a1, World.var?_cell hg1 v1 0, ⟨c1, t1, b1⟩, s1, e1, x1⟩
theorem ne_of_text {W : World} {g g' : Nat} {t t' : List UInt8} {a a' : Addr} (h : OneK W g t a) (h' : OneK W g' t' a') (hne : t ≠ t') : a ≠ a' := fun e => by
  obtain ⟨_, _, s, c, x⟩ := h
  obtain ⟨_, _, s', c', x'⟩ := h'
  rw [e, c'] at c
  simp only [Option.some.injEq, Value.string.injEq] at c
  rw [← c, x'] at x
  exact hne x.symm
def ad5 (a1 a4 a12 a13 a14 : Addr) (k : Nat) : Addr := if k = 1 then a1 else if k = 4 then a4 else if k = 12 then a12 else if k = 13 then a13 else a14
def cutLaid : List (String × DataW Unit) := Rows.codeWordsRow.laid
theorem laid_plain {W : World} (h : laidMetH Tryd.prog Rows.codeWordsRow.laid W) : laidMet Tryd.prog Rows.codeWordsRow.laid W := by
  rw [MakeChecks.laidMetH_plain _ _ _ (by kernel_rfl)] at h
  exact h
theorem env5_of' {r : List (String × DataW Unit)} {W : World} (h' : laidMet Tryd.prog (("pasodoble/api.ErrArg", Rows.laid_pasodoble_api_ErrArg) :: ("pasodoble/api.ErrLong", Rows.laid_pasodoble_api_ErrLong) :: ("pasodoble/api.ErrStack", Rows.laid_pasodoble_api_ErrStack) :: ("pasodoble/api.ErrJump", Rows.laid_pasodoble_api_ErrJump) :: ("pasodoble/api.ErrOp", Rows.laid_pasodoble_api_ErrOp) :: r) W) : ∃ Ad, Env8 W Ad := by
  obtain ⟨⟨a1, h1⟩, a4, h4⟩ := two_of h' kl_g1 kl_t1 kl_g4 kl_t4
  obtain ⟨⟨a12, h12⟩, a13, h13⟩ := two_of h'.tail.tail kl_g12 kl_t12 kl_g13 kl_t13
  obtain ⟨-, a14, h14⟩ := two_of h'.tail.tail.tail kl_g13 kl_t13 kl_g14 kl_t14
  have n1_4 := ne_of_text h1 h4 (by decide)
  have n1_12 := ne_of_text h1 h12 (by decide)
  have n1_13 := ne_of_text h1 h13 (by decide)
  have n1_14 := ne_of_text h1 h14 (by decide)
  have n4_12 := ne_of_text h4 h12 (by decide)
  have n4_13 := ne_of_text h4 h13 (by decide)
  have n4_14 := ne_of_text h4 h14 (by decide)
  have n12_13 := ne_of_text h12 h13 (by decide)
  have n12_14 := ne_of_text h12 h14 (by decide)
  have n13_14 := ne_of_text h13 h14 (by decide)
  have F : ∀ {P : Nat → Prop}, P 1 → P 4 → P 12 → P 13 → P 14 → ∀ k ∈ eight, P k := by
    intro P p1 p4 p12 p13 p14 k hk
    simp only [eight, List.mem_cons, List.not_mem_nil, or_false] at hk
    rcases hk with rfl | rfl | rfl | rfl | rfl <;> assumption
  have C := F (P := fun k => W.cell? ⟨gv k, 0, none⟩ = some (.iface 163 (.pointer (some (ad5 a1 a4 a12 a13 a14 k))))) h1.1 h4.1 h12.1 h13.1 h14.1
  have S := F (P := fun k => SenK W (ad5 a1 a4 a12 a13 a14 k)) h1.2.1 h4.2.1 h12.2.1 h13.2.1 h14.2.1
  have I : ∀ i ∈ eight, ∀ j ∈ eight, ad5 a1 a4 a12 a13 a14 i = ad5 a1 a4 a12 a13 a14 j → i = j := by
    refine F (F ?_ ?_ ?_ ?_ ?_) (F ?_ ?_ ?_ ?_ ?_) (F ?_ ?_ ?_ ?_ ?_) (F ?_ ?_ ?_ ?_ ?_) (F ?_ ?_ ?_ ?_ ?_)
    all_goals simp [ad5]
    all_goals first | exact n1_4 | exact n1_4.symm | exact n1_12 | exact n1_12.symm | exact n1_13 | exact n1_13.symm | exact n1_14 | exact n1_14.symm | exact n4_12 | exact n4_12.symm | exact n4_13 | exact n4_13.symm | exact n4_14 | exact n4_14.symm | exact n12_13 | exact n12_13.symm | exact n12_14 | exact n12_14.symm | exact n13_14 | exact n13_14.symm
  exact ⟨_, fun k hk _ => C k hk, fun k hk _ => S k hk, fun i j hi hj => I i hi j hj⟩
theorem env5_of {W : World} (h : laidMetH Tryd.prog Rows.codeWordsRow.laid W) : ∃ Ad, Env8 W Ad := env5_of' (r := [("pasodoble/code.operations", Rows.laid_pasodoble_code_operations)]) (show laidMet Tryd.prog _ W from (laid_plain h).tail.tail.tail)
theorem gOps : Tryd.prog.globalNamed "pasodoble/code.operations" = some 1 := by kernel_rfl
theorem tOps : (Tryd.prog.globals[1]?).map (·.type) = some 74 := by kernel_rfl
theorem cellsOps : Tryd.prog.cellsOf 71 = 4 := by kernel_rfl
theorem cellsArr : Tryd.prog.cellsOf 74 = 144 := by kernel_rfl
def opD (k : Nat) : DataW Unit := .agg [.lit (.string (wordN k).data.toList), .lit (.int .i64 (argsT.getD k 0)), .lit (.int .i64 (takesT.getD k 0)), .lit (.int .i64 (laysT.getD k 0))]
theorem laid_ops : (Rows.laid_pasodoble_code_operations : DataW Unit) = .agg ((List.range 36).map opD) := by kernel_rfl
set_option maxRecDepth 100000 in
/-- One row of the table, out of its four cells. -/
theorem op_of {W : World} {fuel k : Nat} {cs : List Value} {p : List MemPlace} (h : DataW.trod (fun _ => ()) Tryd.prog W 0 (fun _ => true) false fuel 71 cs = some (opD k, p)) :
    cs = [.string (wordN k), .int .i64 (argsT.getD k 0), .int .i64 (takesT.getD k 0), .int .i64 (laysT.getD k 0)] := by
  obtain ⟨xs, n, _, hr, hl, hx, hf⟩ := DataW.trod_struct Tryd.underlying71 h
  rw [cellsOps] at hl
  match cs, hl with
  | [c0, c1, c2, c3], _ =>
    have f0 := hf 0 _ rfl
    have f1 := hf 1 _ rfl
    have f2 := hf 2 _ rfl
    have f3 := hf 3 _ rfl
    have hxl : xs.length = 4 := hx
    match xs, hxl with
    | [x0, x1, x2, x3], _ =>
      have g0 : DataW.trod (fun _ => ()) Tryd.prog W 0 (fun _ => true) false n 9 [c0] = some x0 := f0
      have g1 : DataW.trod (fun _ => ()) Tryd.prog W 0 (fun _ => true) false n 3 [c1] = some x1 := f1
      have g2 : DataW.trod (fun _ => ()) Tryd.prog W 0 (fun _ => true) false n 3 [c2] = some x2 := f2
      have g3 : DataW.trod (fun _ => ()) Tryd.prog W 0 (fun _ => true) false n 3 [c3] = some x3 := f3
      obtain ⟨t, e0, r0, _⟩ := DataW.trod_string Tryd.underlying9 g0
      obtain ⟨i1, e1, r1, _⟩ := DataW.trod_int Tryd.underlying3 g1
      obtain ⟨i2, e2, r2, _⟩ := DataW.trod_int Tryd.underlying3 g2
      obtain ⟨i3, e3, r3, _⟩ := DataW.trod_int Tryd.underlying3 g3
      subst r0 r1 r2 r3
      have hr := congrArg Prod.fst hr
      simp only [opD, List.map_cons, List.map_nil, DataW.agg.injEq, List.cons.injEq, DataW.lit.injEq, Lit.string.injEq, Lit.int.injEq, true_and, and_true] at hr
      obtain ⟨q0, q1, q2, q3⟩ := hr
      have et : t = wordN k := ByteArray.ext (Array.toList_inj.1 q0.symm)
      simp only [List.cons.injEq, and_true] at e0 e1 e2 e3
      rw [e0, e1, e2, e3, et, q1, q2, q3]
theorem ops_of' {r : List (String × DataW Unit)} {W : World} (h : laidMet Tryd.prog (("pasodoble/code.operations", Rows.laid_pasodoble_code_operations) :: r) W) : OpsAt W := by
  obtain ⟨ps, ⟨g0, t0, cs0, f0, p0, q0, hg0, ht0, hv0, hd0, _, e0⟩, _, _⟩ := h
  obtain rfl := Option.some.inj (gOps.symm.trans hg0)
  obtain rfl := Option.some.inj (tOps.symm.trans ht0)
  rw [laid_ops] at hd0
  obtain ⟨xs, m, _, hr, hl, hx, hf⟩ := DataW.trod_array Tryd.underlying74 hd0
  rw [cellsArr] at hl
  simp only [cellsOps] at hf
  have hxs : xs.map (·.1) = (List.range 36).map opD := by
    have := congrArg Prod.fst hr
    simpa using this.symm
  intro k hk
  have h1 := hf k hk
  obtain ⟨y, hy⟩ : ∃ y, xs[k]? = some y := ⟨xs[k]'(by omega), List.getElem?_eq_getElem _⟩
  rw [hy] at h1
  have h2 : y.1 = opD k := by
    have h3 : (xs.map (·.1))[k]? = some y.1 := by rw [List.getElem?_map, hy]; rfl
    rw [hxs, List.getElem?_map, List.getElem?_range hk] at h3
    simpa using h3.symm
  obtain ⟨y1, y2⟩ := y
  simp only [] at h2
  subst h2
  have h4 := op_of h1
  have G : ∀ i, i < 4 → W.cell? ⟨1, k * 4 + i, none⟩ = ((cs0.toList.drop (k * 4)).take 4)[i]? := fun i hi => by
    rw [World.var?_cell hg0 hv0 (k * 4 + i), List.getElem?_take, if_pos hi, List.getElem?_drop]
    simp
  rw [h4] at G
  exact ⟨G 0 (by decide), G 1 (by decide), G 2 (by decide), G 3 (by decide)⟩
theorem ops_of {W : World} (h : laidMetH Tryd.prog Rows.codeWordsRow.laid W) : OpsAt W := ops_of' (r := []) (show laidMet Tryd.prog _ W from (laid_plain h).tail.tail.tail.tail.tail.tail.tail.tail)
end Go.Proofs.YtkhhiddemihnbaaDoor.Cw
