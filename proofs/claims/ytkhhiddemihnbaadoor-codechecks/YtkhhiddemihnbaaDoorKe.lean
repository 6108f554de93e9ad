/- Contracts of blame: is, of two sentinels. -/
import Derived.Test.YtkhhiddemihnbaaDoorKd
import Derived.LaidEql
import Derived.Stop.Asserts
import Derived.RowKitTokens
import Derived.Defers
import Derived.Recover
namespace Go.Proofs.YtkhhiddemihnbaaDoor
open Go.RowKit Go.Extern.Stop Go.Stop Go.Extern
theorem ke_typeOf (v : Value) (w : World) : (Extern.ReflectliteType.typeOf #[.iface 163 v]).run Tryd.prog w = .ok (.iface 128 (.agg #[.pointer (some ⟨23, 163, none⟩)])) w := by kernel_rfl
def ke_ext : Array Value → Sem Value := Extern.ReflectliteType.method fun t => do Extern.Rtype.noPackHeld "Comparable" t; pure (.bool (← typeInfo t).comparable)
theorem ke_comparable (w : World) : (ke_ext #[.agg #[.pointer (some ⟨23, 163, none⟩)]]).run Tryd.prog w = .ok (.bool true) w := by kernel_rfl
theorem ke_call (w : World) : (callFunc 106 #[.agg #[.pointer (some ⟨23, 163, none⟩)]]).run Tryd.prog w = .ok (.value (.bool true)) w := by
  rw [run_callFunc_extern (e := ke_ext) Tryd.func106 (by kernel_rfl) (by kernel_rfl) (by kernel_rfl) (by kernel_rfl), ke_comparable]
  rfl
theorem ke_comp : (Tryd.prog.info? 163).map (·.comparable) = some true := by kernel_rfl
theorem ke_size : (Tryd.prog.info? 185).map (·.size) = some 1 := by kernel_rfl
theorem ke_noIsE (v : Value) (xT : TypeId) (w : World) : (Instr.typeAssert (.iface 163 v) xT 130 true).run Tryd.prog w = .ok (.tuple #[.nilIface, .bool false]) w := run_typeAssert_lacksB Tryd.underlying130 (by kernel_rfl) (by kernel_rfl) v xT w
theorem ke_noUnwrapE (v : Value) (xT : TypeId) (w : World) : (Instr.typeAssert (.iface 163 v) xT 133 true).run Tryd.prog w = .ok (.tuple #[.nilIface, .bool false]) w := run_typeAssert_lacksB Tryd.underlying133 (by kernel_rfl) (by kernel_rfl) v xT w
theorem ke_noUnwrapsE (v : Value) (xT : TypeId) (w : World) : (Instr.typeAssert (.iface 163 v) xT 135 true).run Tryd.prog w = .ok (.tuple #[.nilIface, .bool false]) w := run_typeAssert_lacksB Tryd.underlying135 (by kernel_rfl) (by kernel_rfl) v xT w
theorem ke_method (v : Value) (w : World) : (Go.method 296 128 v "Comparable").run Tryd.prog w = .ok (106, v) w := by kernel_rfl
theorem ke_size1 : ∀ j, Tryd.prog.info? 185 = some j → j.size ≠ 0 := by
  intro j hj
  have := ke_size
  rw [hj] at this
  have e : j.size = 1 := by simpa using this
  omega
/-- A sentinel's own block. -/
def SenK (w : World) (a : Addr) : Prop := ∃ ca ta, w.heap[a.block]? = some (.cells ca ta (0, 0))
theorem SenK.below {w w' : World} {a : Addr} {B : Nat} (h : SenK w a) (hb : Below B w w') (hB : a.block < B) : SenK w' a := by
  obtain ⟨ca, ta, h⟩ := h
  exact ⟨ca, ta, (hb.block _ hB).trans h⟩
theorem SenK.lt {w : World} {a : Addr} (h : SenK w a) : a.block < w.heap.size := by
  obtain ⟨ca, ta, h⟩ := h
  exact (Array.getElem?_eq_some_iff.1 h).1
set_option maxHeartbeats 800000 in
set_option maxRecDepth 100000 in
theorem ke_same (a : Addr) (w : World) :
    Calls Tryd.prog 23 #[.iface 163 (.pointer (some a)), .iface 163 (.pointer (some a))] w fun e w' => e = .returned (.bool true) ∧ w = w' := by
  obtain ⟨i, hi, hcmp⟩ := Option.map_eq_some_iff.1 ke_comp
  obtain ⟨j, hj, hjs⟩ := Option.map_eq_some_iff.1 ke_size
  have h8 := @run_callFunc_extern Tryd.prog 43 _ Extern.ReflectliteType.typeOf Tryd.func43 (by kernel_rfl) (by kernel_rfl) (by kernel_rfl) (by kernel_rfl)
  have h32 := ke_call
  have tT := ke_typeOf
  have mR := ke_method
  have nE := ke_noIsE
  have uE := ke_noUnwrapE
  have vE := ke_noUnwrapsE
  have heq := run_eql_iface_ptr_same (P := Tryd.prog) w a Tryd.underlying42 Tryd.underlying163 hi hcmp hj
  go_enter Tryd.func23, Tryd.ntmps23
  go_wp2
  refine wp_loop_rounds 1 ?_
  rw [rounds_succ]
  go_wp2
  go_ret
  exact ⟨rfl, rfl⟩
set_option maxHeartbeats 800000 in
set_option maxRecDepth 100000 in
theorem ke_other (a b : Addr) (w : World) (hne : a ≠ b) (ha : SenK w a) (hb : SenK w b) :
    Calls Tryd.prog 23 #[.iface 163 (.pointer (some a)), .iface 163 (.pointer (some b))] w fun e w' => e = .returned (.bool false) ∧ w = w' := by
  obtain ⟨ca, ta, ha⟩ := ha
  obtain ⟨cb, tb, hb⟩ := hb
  obtain ⟨i, hi, hcmp⟩ := Option.map_eq_some_iff.1 ke_comp
  obtain ⟨j, hj, hjs⟩ := Option.map_eq_some_iff.1 ke_size
  have h8 := @run_callFunc_extern Tryd.prog 43 _ Extern.ReflectliteType.typeOf Tryd.func43 (by kernel_rfl) (by kernel_rfl) (by kernel_rfl) (by kernel_rfl)
  have h32 := ke_call
  have tT := ke_typeOf
  have mR := ke_method
  have nE := ke_noIsE
  have uE := ke_noUnwrapE
  have vE := ke_noUnwrapsE
  have heq := run_eql_iface_ptr_other (P := Tryd.prog) w Tryd.underlying42 Tryd.underlying163 hi hcmp hj (ke_size1 j hj) hne ha hb
  clear ha hb hne
  go_enter Tryd.func23, Tryd.ntmps23
  go_wp2
  refine wp_loop_rounds 1 ?_
  rw [rounds_succ]
  go_wp2
  go_ret
  exact ⟨rfl, rfl⟩
theorem ke_idle (p : Addr) (w : World) :
    CallsD Tryd.prog 72 #[.pointer (some p)] .returning w fun e u' w' => e = .returned (.tuple #[]) ∧ u' = .returning ∧ w' = w := by
  refine callsD_of_wpS Tryd.func72 rfl fun c₀ cs hu => ?_
  apply wpS_seq
  apply wpS_region
  simp [wpOpsS, go_sem, recoverD, hu, Tryd.ntmps72, Exit.thenS]
  refine wpS_cond (t := false) (by simp [Act.eval, Array.replicate]) ?_
  simp only [Bool.false_eq_true, if_false]
  refine wpS_of_wp (wp_skip ?_)
  cases c₀
  simp_all [bodyPostS, results, Tryd.results72]
set_option maxHeartbeats 800000 in
set_option maxRecDepth 100000 in
theorem ke_leaf (a b : Addr) (r : Bool) (w : World) (hIs : Calls Tryd.prog 23 #[.iface 163 (.pointer (some a)), .iface 163 (.pointer (some b))] (w.alloc (.cells #[.bool false] 4)) fun e w' => e = .returned (.bool r) ∧ w.alloc (.cells #[.bool false] 4) = w') :
    Calls Tryd.prog 66 #[.iface 163 (.pointer (some a)), .iface 163 (.pointer (some b))] w fun e w' => e = .returned (.bool r) ∧ w' = w.alloc (.cells #[.bool r] 4) := by
  have hmf : ∀ (fn : Fn) (first cap : Array Value) (w : World), (Instr.makeFunc fn first cap).run Tryd.prog w = .ok (.func fn first cap) w := fun _ _ _ _ => rfl
  go_enter_defers Tryd.func66, Tryd.ntmps66
  go_wp2_with (go_at_call 23; refine hIs.mono ?_; rintro e w' ⟨rfl, rfl⟩)
  refine leaves_cons (f := 72) (args := #[.pointer (some ⟨w.heap.size, 0, none⟩)]) (by simp) (by simp [go_sem]) ?_
  refine (ke_idle ⟨w.heap.size, 0, none⟩ _).mono ?_
  rintro e u' w'' ⟨rfl, rfl, rfl⟩
  simp [Leaves, settle, results, Tryd.results66, go_sem]
/-- is, of two sentinels. -/
theorem is_any (a b : Addr) (w : World) (ha : SenK w a) (hb : SenK w b) :
    Calls Tryd.prog 66 #[.iface 163 (.pointer (some a)), .iface 163 (.pointer (some b))] w fun e w' => e = .returned (.bool (decide (a = b))) ∧ w' = w.alloc (.cells #[.bool (decide (a = b))] 4) := by
  have hbl : Below w.heap.size w (w.alloc (.cells #[.bool false] 4)) := (Below.refl _ _).alloc (Nat.le_refl _) _
  by_cases h : a = b
  · subst h
    have := ke_leaf a a true w (ke_same a _)
    simpa using this
  · have := ke_leaf a b false w (ke_other a b _ h (ha.below hbl ha.lt) (hb.below hbl hb.lt))
    simpa [h] using this
set_option maxHeartbeats 400000 in
theorem parts_iface (t : TypeId) (p : Value) (w : World) :
    Calls Tryd.prog 30 #[.iface t p] w fun e w' => e = .returned (.func (.func 50) #[] #[.pointer (some ⟨w.heap.size, 0, none⟩)]) ∧ w' = w.alloc (.cells #[.iface t p] 42) := by
  have hmf : ∀ (fn : Fn) (first cap : Array Value) (w : World), (Instr.makeFunc fn first cap).run Tryd.prog w = .ok (.func fn first cap) w := fun _ _ _ _ => rfl
  go_enter Tryd.func30, Tryd.ntmps30
  go_wp2
  go_ret
  exact ⟨rfl, rfl⟩
set_option maxHeartbeats 400000 in
theorem parts_nil (w : World) :
    Calls Tryd.prog 30 #[.nilIface] w fun e w' => e = .returned (.func (.func 50) #[] #[.pointer (some ⟨w.heap.size, 0, none⟩)]) ∧ w' = w.alloc (.cells #[.nilIface] 42) := by
  have hmf : ∀ (fn : Fn) (first cap : Array Value) (w : World), (Instr.makeFunc fn first cap).run Tryd.prog w = .ok (.func fn first cap) w := fun _ _ _ _ => rfl
  go_enter Tryd.func30, Tryd.ntmps30
  go_wp2
  go_ret
  exact ⟨rfl, rfl⟩
theorem parts_any (v : Value) (hv : v = .nilIface ∨ ∃ t p, v = .iface t p) (w : World) :
    Calls Tryd.prog 30 #[v] w fun e w' => e = .returned (.func (.func 50) #[] #[.pointer (some ⟨w.heap.size, 0, none⟩)]) ∧ w' = w.alloc (.cells #[v] 42) := by
  rcases hv with rfl | ⟨t, p, rfl⟩
  · exact parts_nil w
  · exact parts_iface t p w
theorem Tr.isIface {Ad : Nat → Addr} {n₀ : Nat} {W : World} {d : Nat} {v : Value} {ls : List (List ByteArray × Nat)} (h : Tr Ad n₀ W d v ls) : v = .nilIface ∨ ∃ t p, v = .iface t p := by
  induction h using Tr.ind with
  | empty => exact .inl rfl
  | leaf => exact .inr ⟨_, _, rfl⟩
  | blame => exact .inr ⟨_, _, rfl⟩
  | many => exact .inr ⟨_, _, rfl⟩
set_option maxHeartbeats 800000 in
set_option maxRecDepth 100000 in
theorem parts1_any (bx : Nat) (v : Value) (R : World → Prop) (l : Nat) (W : World) (hc : W.cell? ⟨bx, 0, none⟩ = some v)
    (hw : Calls Tryd.prog 51 #[.slice none 0 0, v, .func (.yield l) #[] #[]] W fun e w3 => ∃ r, e = .returned (.bool r) ∧ R w3) :
    Calls Tryd.prog 50 #[.func (.yield l) #[] #[], .pointer (some ⟨bx, 0, none⟩)] W fun e w3 => e = .returned (.tuple #[]) ∧ R w3 := by
  have HW := hid hw
  clear hw
  go_enter Tryd.func50, Tryd.ntmps50
  go_wp2_with fail
  refine HW.out.mono ?_
  rintro e w3 ⟨r, rfl, hr⟩
  have HR := hid hr
  clear hr
  go_wp2_with fail
  go_end0
  exact ⟨rfl, HR.out⟩
/-- What a range over the parts of an error gives. -/
theorem parts_seq (Ad : Nat → Addr) (n₀ bx d : Nat) (w0 w : World) (v : Value) (ls : List (List ByteArray × Nat)) (m n : Nat) (hT : Tr Ad n₀ w0 d v ls) (hd : d ≤ 1000) (h0 : Below n₀ w0 w) (hn : n₀ ≤ w.heap.size) (hbx : bx < w.heap.size) (hc : w.cell? ⟨bx, 0, none⟩ = some v) :
    ∀ (l : Nat) (J Jx : List Lf → World → Prop) (W : World), Below w.heap.size w W → (∀ s A B, J s A → Turn isRow w.heap.size A B → J s B) → (∀ s A B, Jx s A → Turn isRow w.heap.size A B → Jx s B) →
      (∀ pre x W1, J pre W1 → Handed w.heap.size ls pre x W1 → YieldAt Fence.wide m Tryd.prog l (encs Ad x) W1 fun e W' => (e = .returned (.bool true) ∧ J (pre ++ [x]) W' ∧ Kp n₀ W1 W') ∨ (e = .returned (.bool false) ∧ Jx (pre ++ [x]) W' ∧ Below n₀ W1 W')) → J [] W →
      CallsIn Fence.wide n Tryd.prog 50 (#[.func (.yield l) #[] #[]] ++ #[.pointer (some ⟨bx, 0, none⟩)]) W fun e W' => (∃ v, e = .returned v) ∧ ((∃ xs, xs.map Lf.pair = ls ∧ J xs W') ∨ (∃ pre, pre.map Lf.pair <+: ls ∧ Jx pre W')) := by
  intro l J Jx W hW hJ hJx hY hj
  refine callsIn_wide.2 ?_
  have hw := walk_any Ad l w.heap.size n₀ ls J Jx hJ (fun n pre x W hj hx => wideN n (hY pre x W hj hx)) hn w0 hT (.slice none 0 0) [] [] W (h0.trans (hW.mono hn)) (World.ownsRow_nil _ _ _ _) hj (by simpa using hd) hW.size (by simp)
  simp only [List.nil_append, List.map_id'] at hw
  refine (parts1_any bx v (fun w3 => (∃ xs, xs.map Lf.pair = ls ∧ J xs w3) ∨ (∃ pre, pre.map Lf.pair <+: ls ∧ Jx pre w3)) l W ((hW.cell (p := ⟨bx, 0, none⟩) hbx).trans hc) (hw.mono ?_)).mono ?_
  · rintro e w3 ⟨r, rfl, -, hg, hx⟩
    cases r with
    | true =>
      obtain ⟨⟨xs, hxs, hj3⟩, -, -⟩ := hg rfl
      exact ⟨true, rfl, .inl ⟨xs, by simpa using hxs, by simpa using hj3⟩⟩
    | false =>
      obtain ⟨xs, hxs, hj3⟩ := hx rfl
      exact ⟨false, rfl, .inr ⟨xs, by simpa using hxs, by simpa using hj3⟩⟩
  · rintro e w3 ⟨rfl, hr⟩
    exact ⟨⟨_, rfl⟩, hr⟩
end Go.Proofs.YtkhhiddemihnbaaDoor
