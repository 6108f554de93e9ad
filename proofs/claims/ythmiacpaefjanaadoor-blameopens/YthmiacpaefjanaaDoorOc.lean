/- errors.As of a chain, where no Several is asked for in vain. -/
import Derived.Test.YthmiacpaefjanaaDoorOb
namespace Go.Proofs.YthmiacpaefjanaaDoor
open Go.RowKit Go.Shelf Go.Extern.Stop Go.Stop Go.Extern
set_option maxHeartbeats 4000000 in
/-- errors.as of a chain: it has no Several. -/
theorem as_miss (Ad : Nat → Addr) (n₀ : Nat) (a : Addr) (tgt : Value) (w : World) (ws : List ByteArray) (v : Value) (p : Nat) (hn : n₀ ≤ w.heap.size) (hc : Ch Ad n₀ w p ws v) :
    Calls Tryd.prog 39 #[v, tgt, .agg #[.pointer (some ⟨20, 58, none⟩), .pointer (some a), .int .u64 150], .iface 103 (.agg #[.pointer (some ⟨20, 57, none⟩)])] w fun ev w' => ev = .returned (.bool false) ∧ Below w.heap.size w w' := by
  have h34 := @run_callFunc_extern Tryd.prog 34 _ ReflectliteType.typeOf Tryd.func34 (by kernel_rfl) (by kernel_rfl) (by kernel_rfl) (by kernel_rfl)
  have h75 := @run_callFunc_extern Tryd.prog 75 _ (ReflectliteType.relation "AssignableTo" ReflectliteType.assignableTo) Tryd.func75 (by kernel_rfl) (by kernel_rfl) (by kernel_rfl) (by kernel_rfl)
  have BA : Below w.heap.size w (w.alloc (.cells #[.pointer (some ⟨20, 58, none⟩), .pointer (some a), .int .u64 150] 86)) := (Below.refl _ _).alloc (Nat.le_refl _) _
  have HA := hid BA
  have HC := hid (Ch.below (BA.mono hn) hc)
  clear hc BA
  generalize hwa : w.alloc (.cells #[.pointer (some ⟨20, 58, none⟩), .pointer (some a), .int .u64 150] 86) = wa at *
  have HWA := hid hwa
  clear hwa
  have mA := oa_methodAssignableTo
  go_enter Tryd.func39, Tryd.ntmps39
  go_wp2_with fail
  rw [HWA.out]
  go_loop [0, 9, 10, 11, 12, 14, 15] (fun u _ _ _ _ _ _ => ∃ us, Ch Ad n₀ wa p us u) (fun u _ _ _ _ _ _ => depC Ad n₀ p wa u)
  case atStart => exact ⟨ws, HC.out⟩
  case round =>
    obtain ⟨us, hu⟩ := hrel
    cases us with
    | nil =>
      obtain rfl : _ = Value.iface 80 (.pointer (some (Ad p))) := hu
      have tO := ke_typeOf
      have nX := oa_not80
      have nA := oa_noAs80
      have uE := ke_noUnwrapE
      have vE := ke_noUnwrapsE
      go_wp2_with fail
      go_ret
      exact ⟨rfl, HA.out⟩
    | cons s us =>
      have HD := hid (depC_eq hu)
      obtain ⟨b, inner, rfl, hb, c0, c1, hin⟩ := hu
      have HD2 := hid (depC_eq hin)
      have HI := hid hin
      obtain ⟨t, q, rfl, ht⟩ := hin.shape
      have tO := oa_typeOf50
      have nX := oa_not50
      have nA := oa_noAs50
      have uW := km_hasUnwrapB
      have mU := km_methodB
      clear hin c0 hb ht
      go_wp2_with (go_at_call 23; refine (unwrap_any b t q _ c1).mono ?_; rintro e w' ⟨rfl, rfl⟩)
      go_round
      case rel => exact ⟨us, HI.out⟩
      case measure => show depC _ _ _ _ _ < depC _ _ _ _ _; rw [HD2.out, HD.out]; simp
/-- errors.As of a Blame, asked for a Blame. -/
theorem As_blame (e t : Addr) (old : Value) (w : World) (hg : ErrT w) (ht0 : w.cell? t = some old) (hf0 : w.frozen? t = false) :
    Calls Tryd.prog 22 #[.iface 50 (.pointer (some e)), .iface 52 (.pointer (some t))] w fun ev w' => ev = .returned (.bool true) ∧ ∃ w1, Below w.heap.size w w1 ∧ w' = w1.setCell t (.pointer (some e)) :=
  As_by50 _ ⟨_, _, rfl⟩ t w _ hg fun w2 hb hc => (as_hit50 e t _ _ old w2 hc (Below.seen hb (Nat.le_refl _) ht0) ((hb.frozen (p := t) (World.block_lt_of_cell? w _ ht0)).trans hf0)).mono
    fun _ _ ⟨h1, w1, h2, h3⟩ => ⟨⟨true, h1⟩, h1, w1, hb.trans (h2.mono hb.size), h3⟩
/-- errors.As of a Several, asked for a Several. -/
theorem As_several (e t : Addr) (old : Value) (w : World) (hg : ErrT w) (ht0 : w.cell? t = some old) (hf0 : w.frozen? t = false) :
    Calls Tryd.prog 22 #[.iface 57 (.pointer (some e)), .iface 58 (.pointer (some t))] w fun ev w' => ev = .returned (.bool true) ∧ ∃ w1, Below w.heap.size w w1 ∧ w' = w1.setCell t (.pointer (some e)) :=
  As_by57 _ ⟨_, _, rfl⟩ t w _ hg fun w2 hb hc => (as_hit57 e t _ _ old w2 hc (Below.seen hb (Nat.le_refl _) ht0) ((hb.frozen (p := t) (World.block_lt_of_cell? w _ ht0)).trans hf0)).mono
    fun _ _ ⟨h1, w1, h2, h3⟩ => ⟨⟨true, h1⟩, h1, w1, hb.trans (h2.mono hb.size), h3⟩
/-- errors.As of a chain, asked for a Several. -/
theorem As_none (Ad : Nat → Addr) (v : Value) (p : List ByteArray × Nat) (d : Nat) (t : Addr) (w : World) (hg : ErrT w) (hc : Chn Ad w.heap.size w d v p) :
    Calls Tryd.prog 22 #[v, .iface 58 (.pointer (some t))] w fun ev w' => ev = .returned (.bool false) ∧ Below w.heap.size w w' := by
  obtain ⟨t0, q0, hv, -⟩ := hc.1.shape
  exact As_by57 v ⟨t0, q0, hv⟩ t w _ hg fun w2 hb _ => (as_miss Ad w.heap.size _ _ w2 p.1 v p.2 hb.size (Ch.below hb hc.1)).mono
    fun ev w' ⟨h1, h2⟩ => ⟨⟨false, h1⟩, h1, hb.trans (h2.mono hb.size)⟩
end Go.Proofs.YthmiacpaefjanaaDoor
