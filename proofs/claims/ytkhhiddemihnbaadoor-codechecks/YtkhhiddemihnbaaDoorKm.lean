/- Contracts: errors.Is over Blames and a Several. -/
import Derived.Test.YtkhhiddemihnbaaDoorKf
namespace Go.Proofs.YtkhhiddemihnbaaDoor
open Go.RowKit Go.Shelf Go.Extern.Stop Go.Stop Go.Extern
/-- One sentinel, maybe inside Blames. -/
def Chn (Ad : Nat → Addr) (n₀ : Nat) (W : World) (d : Nat) (v : Value) (p : List ByteArray × Nat) : Prop := Ch Ad n₀ W p.2 p.1 v ∧ 1 ≤ p.2 ∧ p.2 ≤ 18 ∧ p.1.length ≤ d
theorem Ch.shape {Ad : Nat → Addr} {n₀ k : Nat} {W : World} : ∀ {ws : List ByteArray} {v : Value}, Ch Ad n₀ W k ws v → ∃ t q, v = .iface t q ∧ (t = 163 ∨ t = 103)
  | [], _, h => ⟨_, _, h, .inl rfl⟩
  | _ :: _, _, ⟨_, _, hv, _⟩ => ⟨_, _, hv, .inr rfl⟩
theorem Ch.tr {Ad : Nat → Addr} {n₀ k : Nat} {W : World} (hk : 1 ≤ k ∧ k ≤ 18) : ∀ {ws : List ByteArray} {v : Value} {d : Nat}, ws.length ≤ d → Ch Ad n₀ W k ws v → Tr Ad n₀ W d v [(ws, k)]
  | [], _, d, _, h => by subst h; exact .leaf d k hk
  | s :: ws, _, d, hd, ⟨b, inner, hv, hb, c0, c1, hi⟩ => by
    subst hv
    obtain ⟨e, rfl⟩ : ∃ e, d = e + 1 := ⟨d - 1, by simp at hd; omega⟩
    exact .blame e b s inner [(ws, k)] hb c0 c1 (Ch.tr hk (by simp at hd; omega) hi)
theorem Chn.tr {Ad : Nat → Addr} {n₀ d : Nat} {W : World} {v : Value} {p : List ByteArray × Nat} (h : Chn Ad n₀ W d v p) : Tr Ad n₀ W d v [p] := Ch.tr ⟨h.2.1, h.2.2.1⟩ h.2.2.2 h.1
theorem Chn.move {Ad : Nat → Addr} {n₀ n₁ d : Nat} {W W' : World} {v : Value} {p : List ByteArray × Nat} (h : Chn Ad n₀ W d v p) (hb : Below n₀ W W') (hn : n₀ ≤ n₁) : Chn Ad n₁ W' d v p := ⟨(h.1.below hb).wider hn, h.2⟩
theorem km_noIsB (v : Value) (xT : TypeId) (w : World) : (Instr.typeAssert (.iface 103 v) xT 130 true).run Tryd.prog w = .ok (.tuple #[.nilIface, .bool false]) w := run_typeAssert_lacksB Tryd.underlying130 (by kernel_rfl) (by kernel_rfl) v xT w
theorem km_hasUnwrapB (v : Value) (xT : TypeId) (w : World) : (Instr.typeAssert (.iface 103 v) xT 133 true).run Tryd.prog w = .ok (.tuple #[.iface 103 v, .bool true]) w := run_typeAssert_hasB Tryd.underlying133 (by kernel_rfl) v xT w
theorem km_methodB (v : Value) (w : World) : (Go.method 296 103 v "Unwrap").run Tryd.prog w = .ok (100, v) w := by kernel_rfl
theorem km_noIsS (v : Value) (xT : TypeId) (w : World) : (Instr.typeAssert (.iface 109 v) xT 130 true).run Tryd.prog w = .ok (.tuple #[.nilIface, .bool false]) w := run_typeAssert_lacksB Tryd.underlying130 (by kernel_rfl) (by kernel_rfl) v xT w
theorem km_noUnwrapS (v : Value) (xT : TypeId) (w : World) : (Instr.typeAssert (.iface 109 v) xT 133 true).run Tryd.prog w = .ok (.tuple #[.nilIface, .bool false]) w := run_typeAssert_lacksB Tryd.underlying133 (by kernel_rfl) (by kernel_rfl) v xT w
theorem km_hasUnwrapsS (v : Value) (xT : TypeId) (w : World) : (Instr.typeAssert (.iface 109 v) xT 135 true).run Tryd.prog w = .ok (.tuple #[.iface 109 v, .bool true]) w := run_typeAssert_hasB Tryd.underlying135 (by kernel_rfl) v xT w
theorem km_methodS (v : Value) (w : World) : (Go.method 296 109 v "Unwrap").run Tryd.prog w = .ok (62, v) w := by kernel_rfl
set_option maxHeartbeats 400000 in
theorem unwrap_any (g : Nat) (t : TypeId) (q : Value) (w : World) (h1 : w.cell? ⟨g, 1, none⟩ = some (.iface t q)) :
    Calls Tryd.prog 100 #[.pointer (some ⟨g, 0, none⟩)] w fun e w' => e = .returned (.iface t q) ∧ w' = w := by
  go_enter Tryd.func100, Tryd.ntmps100
  go_wp2
  go_ret
  exact ⟨rfl, rfl⟩
theorem Ch.unique {Ad : Nat → Addr} {n₀ k : Nat} {W : World} : ∀ {us us' : List ByteArray} {v : Value}, Ch Ad n₀ W k us v → Ch Ad n₀ W k us' v → us = us'
  | [], [], _, _, _ => rfl
  | [], _ :: _, _, h, ⟨_, _, h', _⟩ => by rw [h] at h'; cases h'
  | _ :: _, [], _, ⟨_, _, h', _⟩, h => by rw [h] at h'; cases h'
  | s :: us, s' :: us', _, ⟨b, i, hv, _, c0, c1, hi⟩, ⟨b', i', hv', _, c0', c1', hi'⟩ => by
    rw [hv] at hv'
    cases hv'
    rw [c0] at c0'
    rw [c1] at c1'
    cases c0'
    cases c1'
    rw [Ch.unique hi hi']
theorem depC_eq {Ad : Nat → Addr} {n₀ k : Nat} {W : World} {us : List ByteArray} {u : Value} (h : Ch Ad n₀ W k us u) : (Classical.epsilon fun n => ∃ us, Ch Ad n₀ W k us u ∧ us.length = n) = us.length := by
  obtain ⟨us', h1, h2⟩ := Classical.epsilon_spec (p := fun n => ∃ us, Ch Ad n₀ W k us u ∧ us.length = n) ⟨us.length, us, h, rfl⟩
  rw [Ch.unique h h1]
  exact h2.symm
theorem km_eql (a b : Addr) (w : World) (ha : SenK w a) (hb : SenK w b) : (binOp .eql 42 (.iface 163 (.pointer (some a))) (.iface 163 (.pointer (some b)))).run Tryd.prog w = .ok (.bool (decide (a = b))) w := by
  obtain ⟨ca, ta, ha⟩ := ha
  obtain ⟨cb, tb, hb⟩ := hb
  obtain ⟨i, hi, hcmp⟩ := Option.map_eq_some_iff.1 ke_comp
  obtain ⟨j, hj, hjs⟩ := Option.map_eq_some_iff.1 ke_size
  by_cases h : a = b
  · subst h
    simpa using run_eql_iface_ptr_same (P := Tryd.prog) w a Tryd.underlying42 Tryd.underlying163 hi hcmp hj
  · simpa [h] using run_eql_iface_ptr_other (P := Tryd.prog) w Tryd.underlying42 Tryd.underlying163 hi hcmp hj (ke_size1 j hj) h ha hb
theorem Env.same {w : World} {Ad : Nat → Addr} (h : Env w Ad) {p k : Nat} (hp : 1 ≤ p ∧ p ≤ 18) (hk : 1 ≤ k ∧ k ≤ 18) : decide (Ad p = Ad k) = decide (p = k) := by
  by_cases e : p = k
  · subst e; simp
  · have : Ad p ≠ Ad k := fun h' => e (h.inj p k hp.1 hp.2 hk.1 hk.2 h')
    simp [e, this]
set_option maxHeartbeats 2000000 in
set_option maxRecDepth 100000 in
/-- errors.is of one sentinel inside Blames. -/
theorem eis_gen (Ad : Nat → Addr) (n₀ k : Nat) (w : World) (ws : List ByteArray) (v : Value) (p : Nat) (hs1 : SenK w (Ad p)) (hs2 : SenK w (Ad k)) (hsame : decide (Ad p = Ad k) = decide (p = k)) (hc : Ch Ad n₀ w p ws v) :
    Calls Tryd.prog 44 #[v, .iface 163 (.pointer (some (Ad k))), .bool true] w fun e w' => e = .returned (.bool (decide (p = k))) ∧ w' = w := by
  have EQ := hid (km_eql (Ad p) (Ad k) w hs1 hs2)
  rw [hsame] at EQ
  have HC := hid hc
  clear hs1 hs2 hsame hc
  generalize decide (p = k) = r at *
  cases r
  all_goals
    go_enter Tryd.func44, Tryd.ntmps44
    go_wp2_with fail
    go_loop [0, 7, 8, 9, 10, 12, 13] (fun u _ _ _ _ _ _ => ∃ us, Ch Ad n₀ w p us u) (fun u _ _ _ _ _ _ => Classical.epsilon fun n => ∃ us, Ch Ad n₀ w p us u ∧ us.length = n)
    case atStart => exact ⟨ws, HC.out⟩
    case round =>
      obtain ⟨us, hu⟩ := hrel
      cases us with
      | nil =>
        obtain rfl : _ = Value.iface 163 (.pointer (some (Ad p))) := hu
        have heq := EQ.out
        have nE := ke_noIsE
        have uE := ke_noUnwrapE
        have vE := ke_noUnwrapsE
        go_wp2_with fail
        go_ret
        exact ⟨rfl, rfl⟩
      | cons s us =>
        have HD := hid (depC_eq hu)
        obtain ⟨b, inner, rfl, hb, c0, c1, hin⟩ := hu
        have HD2 := hid (depC_eq hin)
        have HI := hid hin
        obtain ⟨t, q, rfl, ht⟩ := hin.shape
        have hty := run_eql_iface_types (P := Tryd.prog) 103 163 (.pointer (some ⟨b, 0, none⟩)) (.pointer (some (Ad k))) Tryd.underlying42 (by decide) w
        have nW := km_noIsB
        have uW := km_hasUnwrapB
        have mU := km_methodB
        clear hin c0 hb ht EQ
        go_wp2_with (go_at_call 100; refine (unwrap_any b t q _ c1).mono ?_; rintro e w' ⟨rfl, rfl⟩)
        go_round
        case rel => exact ⟨us, HI.out⟩
        case measure => rw [HD2.out, HD.out]; simp
theorem eis_chain (Ad : Nat → Addr) (n₀ k : Nat) (w : World) (ws : List ByteArray) (v : Value) (p : Nat) (hE : Env w Ad) (hc : Ch Ad n₀ w p ws v) (hp : 1 ≤ p ∧ p ≤ 18) (hk : 1 ≤ k ∧ k ≤ 18) :
    Calls Tryd.prog 44 #[v, .iface 163 (.pointer (some (Ad k))), .bool true] w fun e w' => e = .returned (.bool (decide (p = k))) ∧ w' = w := eis_gen Ad n₀ k w ws v p (hE.sen p hp.1 hp.2) (hE.sen k hk.1 hk.2) (hE.same hp hk) hc
set_option maxHeartbeats 800000 in
set_option maxRecDepth 100000 in
/-- errors.Is, where errors.is answers r. -/
theorem is_by (Ad : Nat → Addr) (k : Nat) (t : TypeId) (q : Value) (r : Bool) (w : World) (hC : Calls Tryd.prog 44 #[.iface t q, .iface 163 (.pointer (some (Ad k))), .bool true] w fun e w' => e = .returned (.bool r) ∧ Below w.heap.size w w') :
    Calls Tryd.prog 23 #[.iface t q, .iface 163 (.pointer (some (Ad k)))] w fun e w' => e = .returned (.bool r) ∧ Below w.heap.size w w' := by
  have h8 := @run_callFunc_extern Tryd.prog 43 _ Extern.ReflectliteType.typeOf Tryd.func43 (by kernel_rfl) (by kernel_rfl) (by kernel_rfl) (by kernel_rfl)
  have h32 := ke_call
  have tT := ke_typeOf
  have mR := ke_method
  have HC := hid hC
  clear hC
  go_enter Tryd.func23, Tryd.ntmps23
  go_wp2_with fail
  refine HC.out.mono ?_
  rintro e w' ⟨rfl, hb⟩
  have HB := hid hb
  clear hb
  go_wp2_with fail
  go_ret
  exact ⟨rfl, HB.out⟩
end Go.Proofs.YtkhhiddemihnbaaDoor
