/- Badges: errors, who has none. -/
import Derived.Test.YtiebbedpjogjfaaDoorBdBb
namespace Go.Proofs.YtiebbedpjogjfaaDoor.Bd
open Go.RowKit Go.Shelf Go.Maps
def five : List Nat := [1, 2, 6, 7, 9]
/-- Five sentinels lie where the program's text lays them. -/
structure Env5 (w : World) (Ad : Nat → Addr) : Prop where
  cell : ∀ k ∈ five, w.cell? ⟨gv k, 0, none⟩ = some (.iface 131 (.pointer (some (Ad k))))
  sen : ∀ k ∈ five, SenK w (Ad k)
  inj : ∀ i ∈ five, ∀ j ∈ five, Ad i = Ad j → i = j
section
variable {w w' : World} {Ad : Nat → Addr}
theorem Env5.later (h : Env5 w Ad) (hb : Below w.heap.size w w') : Env5 w' Ad :=
  ⟨fun k hk => seen hb (Nat.le_refl _) (h.cell k hk), fun k hk => (h.sen k hk).below hb (h.sen k hk).lt, h.inj⟩
theorem Env5.c1 (h : Env5 w Ad) : w.cell? ⟨1, 0, none⟩ = some (.iface 131 (.pointer (some (Ad 1)))) := h.cell 1 (by decide)
theorem Env5.c2 (h : Env5 w Ad) : w.cell? ⟨2, 0, none⟩ = some (.iface 131 (.pointer (some (Ad 2)))) := h.cell 2 (by decide)
theorem Env5.c6 (h : Env5 w Ad) : w.cell? ⟨3, 0, none⟩ = some (.iface 131 (.pointer (some (Ad 6)))) := h.cell 6 (by decide)
theorem Env5.c7 (h : Env5 w Ad) : w.cell? ⟨4, 0, none⟩ = some (.iface 131 (.pointer (some (Ad 7)))) := h.cell 7 (by decide)
theorem Env5.c9 (h : Env5 w Ad) : w.cell? ⟨0, 0, none⟩ = some (.iface 131 (.pointer (some (Ad 9)))) := h.cell 9 (by decide)
theorem Env5.same (h : Env5 w Ad) {p k : Nat} (hp : p ∈ five) (hk : k ∈ five) : decide (Ad p = Ad k) = decide (p = k) := by
  by_cases e : p = k
  · subst e; simp
  · have : Ad p ≠ Ad k := fun h' => e (h.inj p hp k hk h')
    simp [e, this]
end
/-- A sentinel inside Blames. -/
def Err (Ad : Nat → Addr) (W : World) (v : Value) (k d : Nat) : Prop := ∃ ws, Chn Ad W.heap.size W d v (ws, k)
theorem Err.later {Ad : Nat → Addr} {W W' : World} {v : Value} {k d : Nat} (h : Err Ad W v k d) (hb : Below W.heap.size W W') : Err Ad W' v k d := by
  obtain ⟨ws, h⟩ := h; exact ⟨ws, h.move hb hb.size⟩
theorem err_leaf (Ad : Nat → Addr) (W : World) (k : Nat) (hk : 1 ≤ k ∧ k ≤ 18) : Err Ad W (.iface 131 (.pointer (some (Ad k)))) k 0 := ⟨[], rfl, hk.1, hk.2, Nat.le_refl _⟩
theorem at_err (Ad : Nat → Addr) (s : ByteArray) (v : Value) (k d : Nat) (w : World) (h : Err Ad w v k d) :
    Calls Tryd.prog 26 #[.string s, v] w fun e w' => ∃ t q, e = .returned (.iface t q) ∧ Err Ad w' (.iface t q) k (d + 1) ∧ Below w.heap.size w w' := by
  obtain ⟨ws, h⟩ := h
  refine (at_chain Ad s d v (ws, k) w h).mono ?_
  rintro e w' ⟨v', rfl, hc, hb⟩
  obtain ⟨t, q, rfl, _⟩ := hc.1.shape
  exact ⟨t, q, rfl, ⟨_, hc⟩, hb⟩
theorem is_err (Ad : Nat → Addr) {W : World} {v : Value} {p k d : Nat} (hE : Env5 W Ad) (h : Err Ad W v p d) (hp : p ∈ five) (hk : k ∈ five) :
    Calls Tryd.prog 25 #[v, .iface 131 (.pointer (some (Ad k)))] W fun e W' => e = .returned (.bool (decide (p = k))) ∧ Below W.heap.size W W' := by
  obtain ⟨ws, h⟩ := h
  obtain ⟨t, q, rfl, -⟩ := h.1.shape
  refine is_by Ad k t q _ W ((eis_gen Ad W.heap.size k W ws _ p (hE.sen p hp) (hE.sen k hk) (hE.same hp hk) h.1).mono ?_)
  rintro e w' ⟨rfl, rfl⟩
  exact ⟨rfl, Below.refl _ _⟩
section
variable {Ad : Nat → Addr} {B : Nat} {W : World} {bb ob nb : Nat} {n : Int} {l : Prs}
theorem und1 : Tryd.prog.underlying 60 = some (.map 3 29) := Tryd.underlying60
theorem und2 : Tryd.prog.underlying 61 = some (.map 29 3) := Tryd.underlying61
/-- What unnumbered, ID read. -/
def Rd (W : World) (bb nb b : Nat) (i g : Int) (x : Int) (r : Bool) : Prop := W.cell? ⟨bb, 1, none⟩ = some (.map (some nb)) ∧ W.cell? ⟨b, 0, none⟩ = some (.int .i64 i) ∧ W.cell? ⟨b, 1, none⟩ = some (.int .i64 g) ∧ (Instr.lookup 61 (.map (some nb)) (.agg #[.int .i64 i, .int .i64 g]) true).run Tryd.prog W = .ok (.tuple #[.int .i64 x, .bool r]) W
theorem Bg.rd (h : Bg B W bb ob nb n l) {b : Nat} (i g : Int) (hi : I64 i) (hg : I64 g) (hb : W.heap[b]? = some (.cells #[.int .i64 i, .int .i64 g] 29 (0, 0))) : Rd W bb nb b i g ((num l (i, g)).getD 0) (num l (i, g)).isSome :=
  ⟨h.c1, cell_blk hb rfl, cell_blk hb rfl, h.m2.look und2 i g hi hg⟩
set_option maxHeartbeats 1600000 in
set_option maxRecDepth 100000 in
theorem unn_none (h : Bg B W bb ob nb n l) (i g : Int) (hi : I64 i) (hg : I64 g) (hn : num l (i, g) = none) :
    Calls Tryd.prog 27 #[.pointer (some ⟨bb, 0, none⟩), .agg #[.int .i64 i, .int .i64 g]] W fun e W' => e = .returned .nilIface ∧ Below W.heap.size W W' := by
  obtain ⟨w1, hw1⟩ : ∃ w1, w1 = W.alloc (.cells #[.int .i64 i, .int .i64 g] 29) := ⟨_, rfl⟩
  have b1 : Below W.heap.size W w1 := by rw [hw1]; exact bAl _ _
  have r1 : w1.heap[W.heap.size]? = some (.cells #[.int .i64 i, .int .i64 g] 29 (0, 0)) := by rw [hw1]; exact heap_alloc_new W _
  have KK : Hid (∀ W', Below w1.heap.size w1 W' → W'.cell? ⟨bb, 1, none⟩ = some (.map (some nb)) ∧ W'.cell? ⟨W.heap.size, 0, none⟩ = some (.int .i64 i) ∧ W'.cell? ⟨W.heap.size, 1, none⟩ = some (.int .i64 g) ∧ (Instr.lookup 61 (.map (some nb)) (.agg #[.int .i64 i, .int .i64 g]) true).run Tryd.prog W' = .ok (.tuple #[.int .i64 0, .bool false]) W') := fun W' hb => by
    have := ((h.later b1).later hb).rd i g hi hg (blk_seen hb (Nat.le_refl _) r1)
    rw [hn] at this
    exact this
  have HW1 := hid hw1
  have B1 := hid b1
  clear h hi hg hn hw1 b1 r1
  go_enter Tryd.func27, Tryd.ntmps27
  go_upto_region 1 with fail
  rw [← HW1.out]
  go_region_held3 (fun W' => W'.cell? ⟨bb, 1, none⟩ = some (.map (some nb)) ∧ W'.cell? ⟨W.heap.size, 0, none⟩ = some (.int .i64 i) ∧ W'.cell? ⟨W.heap.size, 1, none⟩ = some (.int .i64 g) ∧ (Instr.lookup 61 (.map (some nb)) (.agg #[.int .i64 i, .int .i64 g]) true).run Tryd.prog W' = .ok (.tuple #[.int .i64 0, .bool false]) W')
    (first | exact KK.out _ (Below.refl _ _).drew | exact KK.out _ (Below.refl _ _)) (fail)
  go_wp2_with fail
  go_ret
  exact ⟨rfl, by first | exact B1.out.drew | exact B1.out⟩
set_option maxHeartbeats 1600000 in
set_option maxRecDepth 100000 in
theorem unn_some (h : Bg B W bb ob nb n l) (hE : Env5 W Ad) (i g : Int) (hi : I64 i) (hg : I64 g) {x : Int} (hn : num l (i, g) = some x) :
    Calls Tryd.prog 27 #[.pointer (some ⟨bb, 0, none⟩), .agg #[.int .i64 i, .int .i64 g]] W fun e W' => ∃ t q, e = .returned (.iface t q) ∧ Err Ad W' (.iface t q) 9 1 ∧ Below W.heap.size W W' := by
  obtain ⟨w1, hw1⟩ : ∃ w1, w1 = W.alloc (.cells #[.int .i64 i, .int .i64 g] 29) := ⟨_, rfl⟩
  have b1 : Below W.heap.size W w1 := by rw [hw1]; exact bAl _ _
  have r1 : w1.heap[W.heap.size]? = some (.cells #[.int .i64 i, .int .i64 g] 29 (0, 0)) := by rw [hw1]; exact heap_alloc_new W _
  have KK : Hid (∀ W', Below w1.heap.size w1 W' → W'.cell? ⟨bb, 1, none⟩ = some (.map (some nb)) ∧ W'.cell? ⟨W.heap.size, 0, none⟩ = some (.int .i64 i) ∧ W'.cell? ⟨W.heap.size, 1, none⟩ = some (.int .i64 g) ∧ (Instr.lookup 61 (.map (some nb)) (.agg #[.int .i64 i, .int .i64 g]) true).run Tryd.prog W' = .ok (.tuple #[.int .i64 x, .bool true]) W') := fun W' hb => by
    have := ((h.later b1).later hb).rd i g hi hg (blk_seen hb (Nat.le_refl _) r1)
    rw [hn] at this
    exact this
  have HW1 := hid hw1
  have B1 := hid b1
  have HE := hid (fun W' (hb : Below w1.heap.size w1 W') => ((hE.later b1).later hb).c9)
  have AC := hid (fun str W' => at_err Ad str _ 9 0 W' (err_leaf Ad W' 9 (by decide)))
  clear h hi hg hn hw1 b1 r1 hE
  go_enter Tryd.func27, Tryd.ntmps27
  go_upto_region 1 with fail
  rw [← HW1.out]
  go_region_held3 (fun W' => W'.cell? ⟨bb, 1, none⟩ = some (.map (some nb)) ∧ W'.cell? ⟨W.heap.size, 0, none⟩ = some (.int .i64 i) ∧ W'.cell? ⟨W.heap.size, 1, none⟩ = some (.int .i64 g) ∧ (Instr.lookup 61 (.map (some nb)) (.agg #[.int .i64 i, .int .i64 g]) true).run Tryd.prog W' = .ok (.tuple #[.int .i64 x, .bool true]) W')
    (first | exact KK.out _ (Below.refl _ _).drew | exact KK.out _ (Below.refl _ _)) (fail)
  have c9 := HE.out _ (Below.refl _ _).drew
  go_wp2_with fail
  refine (AC.out _ _).mono ?_
  rintro e w3 ⟨t, q, rfl, hv, hb⟩
  have HV := hid hv
  have bd : Below w1.heap.size w1 w1.drew := (Below.refl _ _).drew
  have B3 := hid (B1.out.trans ((bd.trans (hb.mono bd.size)).mono B1.out.size))
  clear hv hb bd c9 AC KK HE
  go_wp2_with fail
  go_ret
  exact ⟨t, q, rfl, HV.out, B3.out⟩
end
end Go.Proofs.YtiebbedpjogjfaaDoor.Bd
