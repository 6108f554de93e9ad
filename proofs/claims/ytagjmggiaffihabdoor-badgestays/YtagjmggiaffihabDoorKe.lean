/- Contracts of blame: is, of two sentinels. -/
import Derived.Test.YtagjmggiaffihabDoorKd
import Derived.LaidEql
import Derived.Stop.Asserts
import Derived.RowKitTokens
import Derived.Defers
import Derived.Recover
namespace Go.Proofs.YtagjmggiaffihabDoor
open Go.RowKit Go.Extern.Stop Go.Stop Go.Extern
theorem ke_typeOf (v : Value) (w : World) : (Extern.ReflectliteType.typeOf #[.iface 111 v]).run Tryd.prog w = .ok (.iface 79 (.agg #[.pointer (some ⟨5, 111, none⟩)])) w := by kernel_rfl
def ke_ext : Array Value → Sem Value := Extern.ReflectliteType.method fun t => do Extern.Rtype.noPackHeld "Comparable" t; pure (.bool (← typeInfo t).comparable)
theorem ke_comparable (w : World) : (ke_ext #[.agg #[.pointer (some ⟨5, 111, none⟩)]]).run Tryd.prog w = .ok (.bool true) w := by kernel_rfl
theorem ke_call (w : World) : (callFunc 76 #[.agg #[.pointer (some ⟨5, 111, none⟩)]]).run Tryd.prog w = .ok (.value (.bool true)) w := by
  rw [run_callFunc_extern (e := ke_ext) Tryd.func76 (by kernel_rfl) (by kernel_rfl) (by kernel_rfl) (by kernel_rfl), ke_comparable]
  rfl
theorem ke_comp : (Tryd.prog.info? 111).map (·.comparable) = some true := by kernel_rfl
theorem ke_size : (Tryd.prog.info? 135).map (·.size) = some 1 := by kernel_rfl
theorem ke_noIsE (v : Value) (xT : TypeId) (w : World) : (Instr.typeAssert (.iface 111 v) xT 81 true).run Tryd.prog w = .ok (.tuple #[.nilIface, .bool false]) w := run_typeAssert_lacksB Tryd.underlying81 (by kernel_rfl) (by kernel_rfl) v xT w
theorem ke_noUnwrapE (v : Value) (xT : TypeId) (w : World) : (Instr.typeAssert (.iface 111 v) xT 84 true).run Tryd.prog w = .ok (.tuple #[.nilIface, .bool false]) w := run_typeAssert_lacksB Tryd.underlying84 (by kernel_rfl) (by kernel_rfl) v xT w
theorem ke_noUnwrapsE (v : Value) (xT : TypeId) (w : World) : (Instr.typeAssert (.iface 111 v) xT 86 true).run Tryd.prog w = .ok (.tuple #[.nilIface, .bool false]) w := run_typeAssert_lacksB Tryd.underlying86 (by kernel_rfl) (by kernel_rfl) v xT w
theorem ke_method (v : Value) (w : World) : (Go.method 247 79 v "Comparable").run Tryd.prog w = .ok (76, v) w := by kernel_rfl
theorem ke_size1 : ∀ j, Tryd.prog.info? 135 = some j → j.size ≠ 0 := by
  intro j hj
  have := ke_size
  rw [hj] at this
  have e : j.size = 1 := by simpa using this
  omega
/-- A sentinel's own block. -/
def SenK (w : World) (a : Addr) : Prop := ∃ ca ta, w.heap[a.block]? = some (.cells ca ta (0, 0))
theorem SenK.below {w w' : World} {a : Addr} {B : Nat} (h : SenK w a) (hb : Below B w w') (hB : a.block < B) : SenK w' a := by
  obtain ⟨ca, ta, h⟩ := h
  exact ⟨ca, ta, (hb.block _ hB).trans h⟩
theorem SenK.lt {w : World} {a : Addr} (h : SenK w a) : a.block < w.heap.size := by
  obtain ⟨ca, ta, h⟩ := h
  exact (Array.getElem?_eq_some_iff.1 h).1
set_option maxHeartbeats 800000 in
set_option maxRecDepth 100000 in
theorem ke_same (a : Addr) (w : World) :
    Calls Tryd.prog 17 #[.iface 111 (.pointer (some a)), .iface 111 (.pointer (some a))] w fun e w' => e = .returned (.bool true) ∧ w = w' := by
  obtain ⟨i, hi, hcmp⟩ := Option.map_eq_some_iff.1 ke_comp
  obtain ⟨j, hj, hjs⟩ := Option.map_eq_some_iff.1 ke_size
  have h8 := @run_callFunc_extern Tryd.prog 27 _ Extern.ReflectliteType.typeOf Tryd.func27 (by kernel_rfl) (by kernel_rfl) (by kernel_rfl) (by kernel_rfl)
  have h32 := ke_call
  have tT := ke_typeOf
  have mR := ke_method
  have nE := ke_noIsE
  have uE := ke_noUnwrapE
  have vE := ke_noUnwrapsE
  have heq := run_eql_iface_ptr_same (P := Tryd.prog) w a Tryd.underlying31 Tryd.underlying111 hi hcmp hj
  go_enter Tryd.func17, Tryd.ntmps17
  go_wp2
  refine wp_loop_rounds 1 ?_
  rw [rounds_succ]
  go_wp2
  go_ret
  exact ⟨rfl, rfl⟩
set_option maxHeartbeats 800000 in
set_option maxRecDepth 100000 in
theorem ke_other (a b : Addr) (w : World) (hne : a ≠ b) (ha : SenK w a) (hb : SenK w b) :
    Calls Tryd.prog 17 #[.iface 111 (.pointer (some a)), .iface 111 (.pointer (some b))] w fun e w' => e = .returned (.bool false) ∧ w = w' := by
  obtain ⟨ca, ta, ha⟩ := ha
  obtain ⟨cb, tb, hb⟩ := hb
  obtain ⟨i, hi, hcmp⟩ := Option.map_eq_some_iff.1 ke_comp
  obtain ⟨j, hj, hjs⟩ := Option.map_eq_some_iff.1 ke_size
  have h8 := @run_callFunc_extern Tryd.prog 27 _ Extern.ReflectliteType.typeOf Tryd.func27 (by kernel_rfl) (by kernel_rfl) (by kernel_rfl) (by kernel_rfl)
  have h32 := ke_call
  have tT := ke_typeOf
  have mR := ke_method
  have nE := ke_noIsE
  have uE := ke_noUnwrapE
  have vE := ke_noUnwrapsE
  have heq := run_eql_iface_ptr_other (P := Tryd.prog) w Tryd.underlying31 Tryd.underlying111 hi hcmp hj (ke_size1 j hj) hne ha hb
  clear ha hb hne
  go_enter Tryd.func17, Tryd.ntmps17
  go_wp2
  refine wp_loop_rounds 1 ?_
  rw [rounds_succ]
  go_wp2
  go_ret
  exact ⟨rfl, rfl⟩
theorem Tr.isIface {Ad : Nat → Addr} {n₀ : Nat} {W : World} {d : Nat} {v : Value} {ls : List (List ByteArray × Nat)} (h : Tr Ad n₀ W d v ls) : v = .nilIface ∨ ∃ t p, v = .iface t p := by
  induction h using Tr.ind with
  | empty => exact .inl rfl
  | leaf => exact .inr ⟨_, _, rfl⟩
  | blame => exact .inr ⟨_, _, rfl⟩
  | many => exact .inr ⟨_, _, rfl⟩
end Go.Proofs.YtagjmggiaffihabDoor
