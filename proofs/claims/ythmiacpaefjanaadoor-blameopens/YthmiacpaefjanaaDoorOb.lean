/- errors.As: the walks. -/
import Derived.Test.YthmiacpaefjanaaDoorOa
import Derived.Test.YthmiacpaefjanaaDoorTa
namespace Go.Proofs.YthmiacpaefjanaaDoor
open Go.RowKit Go.Shelf Go.Extern.Stop Go.Stop Go.Extern
/-- The type of errors, as the library lays it. -/
def ErrT (w : World) : Prop := w.cell? ⟨18, 0, none⟩ = some (.iface 103 (.agg #[.pointer (some ⟨20, 26, none⟩)]))
theorem ErrT.later {w w' : World} (h : ErrT w) (hb : Below w.heap.size w w') : ErrT w' := Below.seen hb (Nat.le_refl _) h
set_option maxHeartbeats 4000000 in
/-- errors.as, where the error's own type is the target's. -/
theorem as_hit50 (e t a : Addr) (tgt old : Value) (w : World) (ha : w.cell? a = some (.pointer (some t))) (ht0 : w.cell? t = some old) (hf0 : w.frozen? t = false) :
    Calls Tryd.prog 39 #[.iface 50 (.pointer (some e)), tgt, .agg #[.pointer (some ⟨20, 52, none⟩), .pointer (some a), .int .u64 150], .iface 103 (.agg #[.pointer (some ⟨20, 50, none⟩)])] w fun ev w' => ev = .returned (.bool true) ∧ ∃ w1, Below w.heap.size w w1 ∧ w' = w1.setCell t (.pointer (some e)) := by
  have h34 := @run_callFunc_extern Tryd.prog 34 _ ReflectliteType.typeOf Tryd.func34 (by kernel_rfl) (by kernel_rfl) (by kernel_rfl) (by kernel_rfl)
  have h75 := @run_callFunc_extern Tryd.prog 75 _ (ReflectliteType.relation "AssignableTo" ReflectliteType.assignableTo) Tryd.func75 (by kernel_rfl) (by kernel_rfl) (by kernel_rfl) (by kernel_rfl)
  have h46 := @run_callFunc_extern Tryd.prog 46 _ (ReflectliteValue.method (ReflectliteValue.valueError "reflectlite.Value.Elem" 0) ReflectliteValue.elem) Tryd.func46 (by kernel_rfl) (by kernel_rfl) (by kernel_rfl) (by kernel_rfl)
  have h36 := @run_callFunc_extern Tryd.prog 36 _ (fun args => ReflectliteValue.unpack (args.getD 0 (.tuple #[]))) Tryd.func36 (by kernel_rfl) (by kernel_rfl) (by kernel_rfl) (by kernel_rfl)
  have h47 := @run_callFunc_extern Tryd.prog 47 _ ReflectliteValue.set Tryd.func47 (by kernel_rfl) (by kernel_rfl) (by kernel_rfl) (by kernel_rfl)
  have tO := oa_typeOf50
  have mA := oa_methodAssignableTo
  have aX := oa_assignable50
  have vX := oa_valueOf50
  have hal : a.block < w.heap.size := World.block_lt_of_cell? w _ ha
  have htl : t.block < w.heap.size := World.block_lt_of_cell? w _ ht0
  have el := oa_elemV52 a t (w.alloc (.cells #[.pointer (some ⟨20, 52, none⟩), .pointer (some a), .int .u64 150] 86)) (by rw [World.cell?_alloc_lt _ _ a hal]; exact ha)
  have st := oa_set50 t ⟨w.heap.size + 1, 0, none⟩ e old ((w.alloc (.cells #[.pointer (some ⟨20, 52, none⟩), .pointer (some a), .int .u64 150] 86)).alloc (.cells #[.pointer (some e)] 50))
    (by rw [World.cell?_alloc_at _ _ _ _ (by simp)]; rfl)
    (by rw [World.cell?_alloc_lt _ _ t (by simp; omega), World.cell?_alloc_lt _ _ t htl]; exact ht0)
    (by rw [World.frozen?_alloc_old _ _ t (by simp; omega), World.frozen?_alloc_old _ _ t (Nat.ne_of_lt htl)]; exact hf0)
  clear ha ht0 hf0
  go_enter Tryd.func39, Tryd.ntmps39
  go_wp2
  refine wp_loop_rounds 1 ?_
  rw [rounds_succ]
  go_wp2
  go_ret
  exact ⟨rfl, _, ((Below.refl _ _).alloc (Nat.le_refl _) _).alloc (by simp) _, rfl⟩
set_option maxHeartbeats 4000000 in
/-- errors.As, up to errors.as. -/
theorem As_by50 (v : Value) (hv : ∃ t q, v = .iface t q) (t : Addr) (w : World) (R : Ending → World → Prop) (hg : ErrT w)
    (hC : ∀ w2, Below w.heap.size w w2 → w2.cell? ⟨w.heap.size, 0, none⟩ = some (.pointer (some t)) → Calls Tryd.prog 39 #[v, .iface 52 (.pointer (some t)), .agg #[.pointer (some ⟨20, 52, none⟩), .pointer (some ⟨w.heap.size, 0, none⟩), .int .u64 150], .iface 103 (.agg #[.pointer (some ⟨20, 50, none⟩)])] w2 fun ev w' => (∃ b, ev = .returned (.bool b)) ∧ R ev w') :
    Calls Tryd.prog 22 #[v, .iface 52 (.pointer (some t))] w R := by
  obtain ⟨t0, q0, rfl⟩ := hv
  have HC := hid hC
  clear hC
  have h36 := @run_callFunc_extern Tryd.prog 36 _ (fun args => ReflectliteValue.unpack (args.getD 0 (.tuple #[]))) Tryd.func36 (by kernel_rfl) (by kernel_rfl) (by kernel_rfl) (by kernel_rfl)
  have h37 := @run_callFunc_extern Tryd.prog 37 _ (ReflectliteValue.methodAny (ReflectliteValue.valueError "reflectlite.Value.Type" 0) (fun t _ _ _ => ReflectliteType.toType t)) Tryd.func37 (by kernel_rfl) (by kernel_rfl) (by kernel_rfl) (by kernel_rfl)
  have h38 := @run_callFunc_extern Tryd.prog 38 _ (ReflectliteValue.method (ReflectliteValue.valueError "reflectlite.Value.IsNil" 0) ReflectliteValue.isNil) Tryd.func38 (by kernel_rfl) (by kernel_rfl) (by kernel_rfl) (by kernel_rfl)
  have h66 := @run_callFunc_extern Tryd.prog 66 _ (ReflectliteType.abiMethod fun t => do pure (.int .u8 (← Rtype.kind t))) Tryd.func66 (by kernel_rfl) (by kernel_rfl) (by kernel_rfl) (by kernel_rfl)
  have h77 := @run_callFunc_extern Tryd.prog 77 _ (ReflectliteType.method ReflectliteType.elem) Tryd.func77 (by kernel_rfl) (by kernel_rfl) (by kernel_rfl) (by kernel_rfl)
  have h78 := @run_callFunc_extern Tryd.prog 78 _ (ReflectliteType.relation "Implements" ReflectliteType.implements_) Tryd.func78 (by kernel_rfl) (by kernel_rfl) (by kernel_rfl) (by kernel_rfl)
  have f6 := oa_valueOf52
  have f7 := oa_type52
  have mK := oa_methodKind
  have mE := oa_methodElem
  have mI := oa_methodImplements
  have k1 := oa_kind52
  have k2 := oa_kind50
  have e1 := oa_elem52
  have i1 := oa_implements50
  have n8 := oa_isNil52 ⟨w.heap.size, 0, none⟩ t ((w.alloc (.cells #[.pointer (some t)] 52)).alloc (.cells #[.pointer (some ⟨20, 52, none⟩), .pointer (some ⟨w.heap.size, 0, none⟩), .int .u64 150] 86)) (by simp)
  have hlt : 18 < w.heap.size := World.block_lt_of_cell? w _ hg
  have hg2 : ((w.alloc (.cells #[.pointer (some t)] 52)).alloc (.cells #[.pointer (some ⟨20, 52, none⟩), .pointer (some ⟨w.heap.size, 0, none⟩), .int .u64 150] 86)).cell? ⟨18, 0, none⟩ = some (.iface 103 (.agg #[.pointer (some ⟨20, 26, none⟩)])) := by
    rw [World.cell?_alloc_lt _ _ ⟨18, 0, none⟩ (by simp; omega), World.cell?_alloc_lt _ _ ⟨18, 0, none⟩ hlt]; exact hg
  have B2 := hid (((Below.refl w.heap.size w).alloc (Nat.le_refl _) (.cells #[.pointer (some t)] 52)).alloc (by simp) (.cells #[.pointer (some ⟨20, 52, none⟩), .pointer (some ⟨w.heap.size, 0, none⟩), .int .u64 150] 86))
  have C2 : Hid (((w.alloc (.cells #[.pointer (some t)] 52)).alloc (.cells #[.pointer (some ⟨20, 52, none⟩), .pointer (some ⟨w.heap.size, 0, none⟩), .int .u64 150] 86)).cell? ⟨w.heap.size, 0, none⟩ = some (.pointer (some t))) := by simp [Hid]
  clear hg
  go_enter Tryd.func22, Tryd.ntmps22
  go_wp2_with fail
  refine (HC.out _ B2.out C2.out).mono ?_
  rintro e w' ⟨⟨b, rfl⟩, hR⟩
  have HR := hid hR
  clear hR
  go_wp2_with fail
  exact HR.out
set_option maxHeartbeats 4000000 in
/-- errors.as, where the error's own type is the target's. -/
theorem as_hit57 (e t a : Addr) (tgt old : Value) (w : World) (ha : w.cell? a = some (.pointer (some t))) (ht0 : w.cell? t = some old) (hf0 : w.frozen? t = false) :
    Calls Tryd.prog 39 #[.iface 57 (.pointer (some e)), tgt, .agg #[.pointer (some ⟨20, 58, none⟩), .pointer (some a), .int .u64 150], .iface 103 (.agg #[.pointer (some ⟨20, 57, none⟩)])] w fun ev w' => ev = .returned (.bool true) ∧ ∃ w1, Below w.heap.size w w1 ∧ w' = w1.setCell t (.pointer (some e)) := by
  have h34 := @run_callFunc_extern Tryd.prog 34 _ ReflectliteType.typeOf Tryd.func34 (by kernel_rfl) (by kernel_rfl) (by kernel_rfl) (by kernel_rfl)
  have h75 := @run_callFunc_extern Tryd.prog 75 _ (ReflectliteType.relation "AssignableTo" ReflectliteType.assignableTo) Tryd.func75 (by kernel_rfl) (by kernel_rfl) (by kernel_rfl) (by kernel_rfl)
  have h46 := @run_callFunc_extern Tryd.prog 46 _ (ReflectliteValue.method (ReflectliteValue.valueError "reflectlite.Value.Elem" 0) ReflectliteValue.elem) Tryd.func46 (by kernel_rfl) (by kernel_rfl) (by kernel_rfl) (by kernel_rfl)
  have h36 := @run_callFunc_extern Tryd.prog 36 _ (fun args => ReflectliteValue.unpack (args.getD 0 (.tuple #[]))) Tryd.func36 (by kernel_rfl) (by kernel_rfl) (by kernel_rfl) (by kernel_rfl)
  have h47 := @run_callFunc_extern Tryd.prog 47 _ ReflectliteValue.set Tryd.func47 (by kernel_rfl) (by kernel_rfl) (by kernel_rfl) (by kernel_rfl)
  have tO := oa_typeOf57
  have mA := oa_methodAssignableTo
  have aX := oa_assignable57
  have vX := oa_valueOf57
  have hal : a.block < w.heap.size := World.block_lt_of_cell? w _ ha
  have htl : t.block < w.heap.size := World.block_lt_of_cell? w _ ht0
  have el := oa_elemV58 a t (w.alloc (.cells #[.pointer (some ⟨20, 58, none⟩), .pointer (some a), .int .u64 150] 86)) (by rw [World.cell?_alloc_lt _ _ a hal]; exact ha)
  have st := oa_set57 t ⟨w.heap.size + 1, 0, none⟩ e old ((w.alloc (.cells #[.pointer (some ⟨20, 58, none⟩), .pointer (some a), .int .u64 150] 86)).alloc (.cells #[.pointer (some e)] 57))
    (by rw [World.cell?_alloc_at _ _ _ _ (by simp)]; rfl)
    (by rw [World.cell?_alloc_lt _ _ t (by simp; omega), World.cell?_alloc_lt _ _ t htl]; exact ht0)
    (by rw [World.frozen?_alloc_old _ _ t (by simp; omega), World.frozen?_alloc_old _ _ t (Nat.ne_of_lt htl)]; exact hf0)
  clear ha ht0 hf0
  go_enter Tryd.func39, Tryd.ntmps39
  go_wp2
  refine wp_loop_rounds 1 ?_
  rw [rounds_succ]
  go_wp2
  go_ret
  exact ⟨rfl, _, ((Below.refl _ _).alloc (Nat.le_refl _) _).alloc (by simp) _, rfl⟩
set_option maxHeartbeats 4000000 in
/-- errors.As, up to errors.as. -/
theorem As_by57 (v : Value) (hv : ∃ t q, v = .iface t q) (t : Addr) (w : World) (R : Ending → World → Prop) (hg : ErrT w)
    (hC : ∀ w2, Below w.heap.size w w2 → w2.cell? ⟨w.heap.size, 0, none⟩ = some (.pointer (some t)) → Calls Tryd.prog 39 #[v, .iface 58 (.pointer (some t)), .agg #[.pointer (some ⟨20, 58, none⟩), .pointer (some ⟨w.heap.size, 0, none⟩), .int .u64 150], .iface 103 (.agg #[.pointer (some ⟨20, 57, none⟩)])] w2 fun ev w' => (∃ b, ev = .returned (.bool b)) ∧ R ev w') :
    Calls Tryd.prog 22 #[v, .iface 58 (.pointer (some t))] w R := by
  obtain ⟨t0, q0, rfl⟩ := hv
  have HC := hid hC
  clear hC
  have h36 := @run_callFunc_extern Tryd.prog 36 _ (fun args => ReflectliteValue.unpack (args.getD 0 (.tuple #[]))) Tryd.func36 (by kernel_rfl) (by kernel_rfl) (by kernel_rfl) (by kernel_rfl)
  have h37 := @run_callFunc_extern Tryd.prog 37 _ (ReflectliteValue.methodAny (ReflectliteValue.valueError "reflectlite.Value.Type" 0) (fun t _ _ _ => ReflectliteType.toType t)) Tryd.func37 (by kernel_rfl) (by kernel_rfl) (by kernel_rfl) (by kernel_rfl)
  have h38 := @run_callFunc_extern Tryd.prog 38 _ (ReflectliteValue.method (ReflectliteValue.valueError "reflectlite.Value.IsNil" 0) ReflectliteValue.isNil) Tryd.func38 (by kernel_rfl) (by kernel_rfl) (by kernel_rfl) (by kernel_rfl)
  have h66 := @run_callFunc_extern Tryd.prog 66 _ (ReflectliteType.abiMethod fun t => do pure (.int .u8 (← Rtype.kind t))) Tryd.func66 (by kernel_rfl) (by kernel_rfl) (by kernel_rfl) (by kernel_rfl)
  have h77 := @run_callFunc_extern Tryd.prog 77 _ (ReflectliteType.method ReflectliteType.elem) Tryd.func77 (by kernel_rfl) (by kernel_rfl) (by kernel_rfl) (by kernel_rfl)
  have h78 := @run_callFunc_extern Tryd.prog 78 _ (ReflectliteType.relation "Implements" ReflectliteType.implements_) Tryd.func78 (by kernel_rfl) (by kernel_rfl) (by kernel_rfl) (by kernel_rfl)
  have f6 := oa_valueOf58
  have f7 := oa_type58
  have mK := oa_methodKind
  have mE := oa_methodElem
  have mI := oa_methodImplements
  have k1 := oa_kind58
  have k2 := oa_kind57
  have e1 := oa_elem58
  have i1 := oa_implements57
  have n8 := oa_isNil58 ⟨w.heap.size, 0, none⟩ t ((w.alloc (.cells #[.pointer (some t)] 58)).alloc (.cells #[.pointer (some ⟨20, 58, none⟩), .pointer (some ⟨w.heap.size, 0, none⟩), .int .u64 150] 86)) (by simp)
  have hlt : 18 < w.heap.size := World.block_lt_of_cell? w _ hg
  have hg2 : ((w.alloc (.cells #[.pointer (some t)] 58)).alloc (.cells #[.pointer (some ⟨20, 58, none⟩), .pointer (some ⟨w.heap.size, 0, none⟩), .int .u64 150] 86)).cell? ⟨18, 0, none⟩ = some (.iface 103 (.agg #[.pointer (some ⟨20, 26, none⟩)])) := by
    rw [World.cell?_alloc_lt _ _ ⟨18, 0, none⟩ (by simp; omega), World.cell?_alloc_lt _ _ ⟨18, 0, none⟩ hlt]; exact hg
  have B2 := hid (((Below.refl w.heap.size w).alloc (Nat.le_refl _) (.cells #[.pointer (some t)] 58)).alloc (by simp) (.cells #[.pointer (some ⟨20, 58, none⟩), .pointer (some ⟨w.heap.size, 0, none⟩), .int .u64 150] 86))
  have C2 : Hid (((w.alloc (.cells #[.pointer (some t)] 58)).alloc (.cells #[.pointer (some ⟨20, 58, none⟩), .pointer (some ⟨w.heap.size, 0, none⟩), .int .u64 150] 86)).cell? ⟨w.heap.size, 0, none⟩ = some (.pointer (some t))) := by simp [Hid]
  clear hg
  go_enter Tryd.func22, Tryd.ntmps22
  go_wp2_with fail
  refine (HC.out _ B2.out C2.out).mono ?_
  rintro e w' ⟨⟨b, rfl⟩, hR⟩
  have HR := hid hR
  clear hR
  go_wp2_with fail
  exact HR.out
end Go.Proofs.YthmiacpaefjanaaDoor
