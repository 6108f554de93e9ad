/- New; the function that looks for a cell that isn't 0. -/
import Derived.Test.YtpglanlpnapddaaDoorCb
namespace Go.Proofs.YtpglanlpnapddaaDoor
open Go.RowKit Go.Shelf Go.Maps
/-- The sentinels that a column tells. -/
def three : List Nat := [1, 2, 7]
structure Env3 (w : World) (Ad : Nat → Addr) : Prop where
  cell : ∀ k ∈ three, w.cell? ⟨gv k, 0, none⟩ = some (.iface 105 (.pointer (some (Ad k))))
  sen : ∀ k ∈ three, SenK w (Ad k)
  inj : ∀ i ∈ three, ∀ j ∈ three, Ad i = Ad j → i = j
theorem Env3.later {w w' : World} {Ad : Nat → Addr} (h : Env3 w Ad) (hb : Below w.heap.size w w') : Env3 w' Ad :=
  ⟨fun k hk => seen hb (Nat.le_refl _) (h.cell k hk), fun k hk => (h.sen k hk).below hb (h.sen k hk).lt, h.inj⟩
theorem Env3.c1 {w : World} {Ad : Nat → Addr} (h : Env3 w Ad) : w.cell? ⟨0, 0, none⟩ = some (.iface 105 (.pointer (some (Ad 1)))) := h.cell 1 (by decide)
theorem Env3.c2 {w : World} {Ad : Nat → Addr} (h : Env3 w Ad) : w.cell? ⟨2, 0, none⟩ = some (.iface 105 (.pointer (some (Ad 2)))) := h.cell 2 (by decide)
theorem Env3.c7 {w : World} {Ad : Nat → Addr} (h : Env3 w Ad) : w.cell? ⟨1, 0, none⟩ = some (.iface 105 (.pointer (some (Ad 7)))) := h.cell 7 (by decide)
theorem Env.three {w : World} {Ad : Nat → Addr} (h : Env w Ad) : Env3 w Ad := by
  have R : ∀ k ∈ YtpglanlpnapddaaDoor.three, 1 ≤ k ∧ k ≤ 18 := by decide
  exact ⟨fun k hk => h.cell k (R k hk).1 (R k hk).2, fun k hk => h.sen k (R k hk).1 (R k hk).2, fun i hi j hj => h.inj i j (R i hi).1 (R i hi).2 (R j hj).1 (R j hj).2⟩
/-- A sentinel inside Blames, at most ten of them. -/
def Err (Ad : Nat → Addr) (W : World) (v : Value) (k d : Nat) : Prop := ∃ ws, Chn Ad W.heap.size W d v (ws, k)
theorem Err.later {Ad : Nat → Addr} {W W' : World} {v : Value} {k d : Nat} (h : Err Ad W v k d) (hb : Below W.heap.size W W') : Err Ad W' v k d := by
  obtain ⟨ws, h⟩ := h; exact ⟨ws, h.move hb hb.size⟩
theorem Err.shape {Ad : Nat → Addr} {W : World} {v : Value} {k d : Nat} (h : Err Ad W v k d) : ∃ t q, v = .iface t q := by
  obtain ⟨ws, h⟩ := h; obtain ⟨t, q, rfl, _⟩ := h.1.shape; exact ⟨t, q, rfl⟩
theorem err_leaf (Ad : Nat → Addr) (W : World) (k : Nat) (hk : 1 ≤ k ∧ k ≤ 18) : Err Ad W (.iface 105 (.pointer (some (Ad k)))) k 0 := ⟨[], rfl, hk.1, hk.2, Nat.le_refl _⟩
theorem at_err (Ad : Nat → Addr) (s : ByteArray) (v : Value) (k d : Nat) (w : World) (h : Err Ad w v k d) :
    Calls Tryd.prog 27 #[.string s, v] w fun e w' => ∃ t q, e = .returned (.iface t q) ∧ Err Ad w' (.iface t q) k (d + 1) ∧ Below w.heap.size w w' := by
  obtain ⟨ws, h⟩ := h
  refine (at_chain Ad s d v (ws, k) w h).mono ?_
  rintro e w' ⟨v', rfl, hc, hb⟩
  obtain ⟨t, q, rfl, _⟩ := hc.1.shape
  exact ⟨t, q, rfl, ⟨_, hc⟩, hb⟩
set_option maxHeartbeats 800000 in
set_option maxRecDepth 100000 in
theorem new_comp (Ad : Nat → Addr) (W : World) (hE : Env3 W Ad) (c w : Int) (hc : c < 0 ∨ 16 ≤ c) :
    Calls Tryd.prog 8 #[.int .i64 c, .int .i64 w] W fun e W' => ∃ v, e = .returned (.tuple #[.pointer none, v]) ∧ Err Ad W' v 1 1 ∧ Below W.heap.size W W' := by
  have e1 := hE.c1
  have AC := hid (fun s => at_err Ad s _ 1 0 W (err_leaf Ad W 1 (by decide)))
  clear hE
  rcases hc with hc | hc
  · go_enter Tryd.func8, Tryd.ntmps8
    go_wp2_with fail
    refine (AC.out _).mono ?_
    rintro e w1 ⟨t, q, rfl, hv, hb⟩
    have HV := hid hv
    have HB := hid hb
    clear hv hb e1 AC
    go_wp2_with fail
    go_ret2
    exact ⟨_, rfl, HV.out, HB.out⟩
  · have h0 : ¬ (c < 0) := by omega
    go_enter Tryd.func8, Tryd.ntmps8
    go_wp2_with fail
    refine (AC.out _).mono ?_
    rintro e w1 ⟨t, q, rfl, hv, hb⟩
    have HV := hid hv
    have HB := hid hb
    clear hv hb e1 AC
    go_wp2_with fail
    go_ret2
    exact ⟨_, rfl, HV.out, HB.out⟩
set_option maxHeartbeats 800000 in
set_option maxRecDepth 100000 in
theorem new_width (Ad : Nat → Addr) (W : World) (hE : Env3 W Ad) (c w : Int) (h0 : 0 ≤ c) (h1 : c ≤ 15) (hw : w < 1 ∨ 4 < w) :
    Calls Tryd.prog 8 #[.int .i64 c, .int .i64 w] W fun e W' => ∃ v, e = .returned (.tuple #[.pointer none, v]) ∧ Err Ad W' v 1 1 ∧ Below W.heap.size W W' := by
  have e1 := hE.c1
  have h2 : ¬ (c < 0) := by omega
  have h3 : ¬ (16 ≤ c) := by omega
  have AC := hid (fun s => at_err Ad s _ 1 0 W (err_leaf Ad W 1 (by decide)))
  clear hE
  rcases hw with hc | hc
  · go_enter Tryd.func8, Tryd.ntmps8
    go_wp2_with fail
    refine (AC.out _).mono ?_
    rintro e w1 ⟨t, q, rfl, hv, hb⟩
    have HV := hid hv
    have HB := hid hb
    clear hv hb e1 AC
    go_wp2_with fail
    go_ret2
    exact ⟨_, rfl, HV.out, HB.out⟩
  · have h4 : ¬ (w < 1) := by omega
    go_enter Tryd.func8, Tryd.ntmps8
    go_wp2_with fail
    refine (AC.out _).mono ?_
    rintro e w1 ⟨t, q, rfl, hv, hb⟩
    have HV := hid hv
    have HB := hid hb
    clear hv hb e1 AC
    go_wp2_with fail
    go_ret2
    exact ⟨_, rfl, HV.out, HB.out⟩
set_option maxHeartbeats 800000 in
set_option maxRecDepth 100000 in
theorem new_some (W : World) (c : Int) (w : Nat) (h0 : 0 ≤ c) (h1 : c ≤ 15) (hw0 : 1 ≤ w) (hw : w ≤ 4) :
    Calls Tryd.prog 8 #[.int .i64 c, .int .i64 (w : Int)] W fun e W' => e = .returned (.tuple #[.pointer (some ⟨W.heap.size + 1, 0, none⟩), .nilIface]) ∧ Cl W.heap.size W' (W.heap.size + 1) W.heap.size (.slice none 0 0) ⟨c, w, []⟩ ∧ Below W.heap.size W W' := by
  have h2 : ¬ (c < 0) := by omega
  have h3 : ¬ (16 ≤ c) := by omega
  have h4 : ¬ ((w : Int) < 1) := by omega
  have h5 : ¬ (4 < (w : Int)) := by omega
  have hmm := run_makeMap (P := Tryd.prog) 66
  have K : Hid (Cl W.heap.size ((W.alloc (.map #[] 0)).alloc (.cells #[.int .i64 c, .int .i64 (w : Int), .slice none 0 0, .map (some W.heap.size)] 68)) (W.heap.size + 1) W.heap.size (.slice none 0 0) ⟨c, w, []⟩ ∧ Below W.heap.size W ((W.alloc (.map #[] 0)).alloc (.cells #[.int .i64 c, .int .i64 (w : Int), .slice none 0 0, .map (some W.heap.size)] 68))) := by
    refine ⟨⟨?_, ?_, ?_, ⟨hw0, hw, by simp⟩, by simp, by omega⟩, (bAl W _).alloc (by simp) _⟩
    · have := heap_alloc_new (W.alloc (.map #[] 0)) (.cells #[.int .i64 c, .int .i64 (w : Int), .slice none 0 0, .map (some W.heap.size)] 68)
      simpa using this
    · have := World.ownsRow_nil ((W.alloc (.map #[] 0)).alloc (.cells #[.int .i64 c, .int .i64 (w : Int), .slice none 0 0, .map (some W.heap.size)] 68)) W.heap.size 3 1
      simpa [flat] using this
    · have := World.ownsMap_made W Tryd.prog 3 (plainElem (H := Unit) Tryd.prog 3)
      refine ⟨_, this.alloc _, fun i _ => ?_, rfl⟩
      have e : rowAt [] i = none := by unfold rowAt; split <;> simp
      unfold tickAt
      rw [e]
      exact ⟨rfl, rfl⟩
  go_enter Tryd.func8, Tryd.ntmps8
  go_wp2_with fail
  go_ret2
  exact ⟨rfl, K.out.1, K.out.2⟩
/-- The value that the function f is. -/
def fv36 : Value := .func (.func 36) #[] #[]
set_option maxHeartbeats 400000 in
theorem nz_any (x : Int) (W : World) : Calls Tryd.prog 36 #[.int .i64 x] W fun e W' => e = .returned (.bool (!(x == 0))) ∧ W' = W := by
  go_enter Tryd.func36, Tryd.ntmps36
  go_wp2
  go_ret
  exact ⟨rfl, rfl⟩
end Go.Proofs.YtpglanlpnapddaaDoor
