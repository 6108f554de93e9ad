/- Texts in one. -/
import Derived.Deep.RegionHeld3
import Derived.Deep.QuietTactic
import Derived.BigQuiet
import Derived.Deep.RegionLaw
import Derived.Deep.RegionHeldLaw
import Derived.Deep.AppendLies
import Derived.Laws.StructEq
import Derived.Laws.OwnMore
import Derived.Test.YthadfdbkkmmgoaaGreatDoorMac
namespace Go.Proofs.YthadfdbkkmmgoaaGreatDoor.Co
open Go.RowKit Go.Shelf Go.Maps
/-- Outside S all lies as it lay. -/
structure St (S : Nat → Prop) (W W' : World) : Prop where
  os : W'.os = W.os
  tape : W'.tape = W.tape
  output : W'.output = W.output
  size : W.heap.size ≤ W'.heap.size
  block : ∀ k, k < W.heap.size → ¬ S k → W'.heap[k]? = W.heap[k]?
theorem St.refl (S : Nat → Prop) (W : World) : St S W W := ⟨rfl, rfl, rfl, Nat.le_refl _, fun _ _ _ => rfl⟩
theorem St.trans {S T : Nat → Prop} {a b c : World} (h : St S a b) (k : St T b c) (hs : ∀ x, x < a.heap.size → T x → S x) : St S a c :=
  ⟨k.os.trans h.os, k.tape.trans h.tape, k.output.trans h.output, Nat.le_trans h.size k.size, fun x hx hn => (k.block x (Nat.lt_of_lt_of_le hx h.size) (fun q => hn (hs x hx q))).trans (h.block x hx hn)⟩
theorem St.of_below {S : Nat → Prop} {a b : World} (h : Below a.heap.size a b) : St S a b := ⟨h.os, h.tape, h.output, h.size, fun k hk _ => h.block k hk⟩
theorem St.of_grown {S : Nat → Prop} {a b : World} {row : Option Nat} (h : a.grownBy b row) (hS : ∀ k, row = some k → S k) : St S a b :=
  ⟨h.os, h.tape, h.output, h.size, fun k hk hn => h.block k hk (fun e => hn (hS k e.symm))⟩
theorem St.below {S : Nat → Prop} {a b : World} {B : Nat} (h : St S a b) (hS : ∀ k, S k → B ≤ k) (hB : B ≤ a.heap.size) : Below B a b :=
  ⟨h.os, h.tape, h.output, h.size, fun k hk => h.block k (by omega) (fun q => by have := hS k q; omega)⟩
theorem St.setCell {S : Nat → Prop} {a : World} {p : Addr} (v : Value) (hp : S p.block) : St S a (a.setCell p v) :=
  ⟨rfl, rfl, rfl, by simp, fun k _ hn => Below.heap_setCell _ _ _ _ (fun e => hn (e ▸ hp))⟩
theorem St.at {S : Nat → Prop} {W W' : World} {b : Nat} {o : Obj} (hs : St S W W') (h : W.heap[b]? = some o) (hn : ¬ S b) : W'.heap[b]? = some o := (hs.block b (Array.getElem?_eq_some_iff.1 h).1 hn).trans h
theorem bAl (W : World) (o : Obj) : Below W.heap.size W (W.alloc o) := (Below.refl _ _).alloc (Nat.le_refl _) _
theorem cell_blk {W : World} {b j : Nat} {cs : Array Value} {e : TypeId} {u : Value} (h : W.heap[b]? = some (.cells cs e (0, 0))) (hj : cs[j]? = some u) : W.cell? ⟨b, j, none⟩ = some u := by
  rw [cell_of_row _ _ j _ e (0, 0) h]; exact hj
theorem blk_free {W : World} {b : Nat} {cs : Array Value} {e : TypeId} (h : W.heap[b]? = some (.cells cs e (0, 0))) (j : Nat) : W.frozen? ⟨b, j, none⟩ = false := by
  unfold World.frozen?
  rw [show (⟨b, j, none⟩ : Addr).block = b from rfl, h]
  simp
theorem blk_seen {W W' : World} {B b : Nat} {o : Obj} (hb : Below B W W') (hB : W.heap.size ≤ B) (h : W.heap[b]? = some o) : W'.heap[b]? = some o := (hb.block b (Nat.lt_of_lt_of_le (Array.getElem?_eq_some_iff.1 h).1 hB)).trans h
theorem seen {B : Nat} {W W' : World} (hb : Below B W W') (hB : W.heap.size ≤ B) {p : Addr} {u : Value} (h : W.cell? p = some u) : W'.cell? p = some u := (hb.cell (p := p) (Nat.lt_of_lt_of_le (World.block_lt_of_cell? W p h) hB)).trans h
/-- A column: its component, its width, its rows. -/
structure CS where
  comp : Int
  w : Nat
  rows : List Pt
structure CS.ok (s : CS) : Prop where
  w0 : 1 ≤ s.w
  w4 : s.w ≤ 4
  fit : ∀ p ∈ s.rows, p.fitB s.w = true ∧ I64 p.t
/-- The blocks of a column. -/
def Ft (rb mb : Nat) (sv : Value) (k : Nat) : Prop := k = rb ∨ k = mb ∨ sv.ownBlock = some k
/-- A column in memory. -/
structure Cl (B : Nat) (W : World) (rb mb : Nat) (sv : Value) (s : CS) : Prop where
  box : W.heap[rb]? = some (.cells #[.int .i64 s.comp, .int .i64 (s.w : Int), sv, .map (some mb)] 274 (0, 0))
  row : W.ownsRow B 3 1 sv (s.rows.length * s.w) (flat s.w s.rows)
  map : ∃ D, W.ownsMap Tryz.prog 3 (plainElem Tryz.prog 3) mb s.rows.length D ∧ Holds D s.rows
  ok : s.ok
  small : s.rows.length ≤ 1000
  low : B ≤ rb ∧ B ≤ mb
section
variable {B : Nat} {W W' : World} {rb mb : Nat} {sv : Value} {s : CS}
theorem Cl.kept {T : Nat → Prop} (h : Cl B W rb mb sv s) (hs : St T W W') (hd : ∀ k, Ft rb mb sv k → ¬ T k) : Cl B W' rb mb sv s := by
  have lt := fun {k : Nat} {o : Obj} (h : W.heap[k]? = some o) => (Array.getElem?_eq_some_iff.1 h).1
  refine ⟨(hs.block rb (lt h.box) (hd _ (.inl rfl))).trans h.box, ?_, ?_, h.ok, h.small, h.low⟩
  · exact own_later h.row fun g cur hg hb => (hs.block g (lt hb) (hd _ (.inr (.inr hg)))).trans hb
  · obtain ⟨D, ⟨es, clock, hb, q⟩, hH⟩ := h.map
    exact ⟨D, ⟨es, clock, (hs.block mb (lt hb) (hd _ (.inr (.inl rfl)))).trans hb, q⟩, hH⟩
theorem Cl.later (h : Cl B W rb mb sv s) (hb : Below W.heap.size W W') : Cl B W' rb mb sv s := h.kept (T := fun _ => False) (St.of_below hb) (fun _ _ q => q)
theorem Cl.lt (h : Cl B W rb mb sv s) (k : Nat) (hk : Ft rb mb sv k) : B ≤ k ∧ k < W.heap.size := by
  have lt := fun {k : Nat} {o : Obj} (h : W.heap[k]? = some o) => (Array.getElem?_eq_some_iff.1 h).1
  rcases hk with rfl | rfl | hk
  · exact ⟨h.low.1, lt h.box⟩
  · obtain ⟨D, hD, _⟩ := h.map; exact ⟨h.low.2, hD.lt⟩
  · exact h.row.lt k hk
theorem Cl.base (h : Cl B W rb mb sv s) : B ≤ W.heap.size := by have := h.lt rb (.inl rfl); omega
theorem Cl.c0 (h : Cl B W rb mb sv s) : W.cell? ⟨rb, 0, none⟩ = some (.int .i64 s.comp) := cell_blk h.box rfl
theorem Cl.c1 (h : Cl B W rb mb sv s) : W.cell? ⟨rb, 1, none⟩ = some (.int .i64 (s.w : Int)) := cell_blk h.box rfl
theorem Cl.c2 (h : Cl B W rb mb sv s) : W.cell? ⟨rb, 2, none⟩ = some sv := cell_blk h.box rfl
theorem Cl.c3 (h : Cl B W rb mb sv s) : W.cell? ⟨rb, 3, none⟩ = some (.map (some mb)) := cell_blk h.box rfl
theorem Cl.ne_rm (h : Cl B W rb mb sv s) : rb ≠ mb := fun e => by
  have h1 := h.box
  obtain ⟨D, ⟨es, cl, hb, _⟩, _⟩ := h.map
  rw [e, hb] at h1
  simp at h1
theorem Cl.ne_f (h : Cl B W rb mb sv s) (k : Nat) (hk : sv.ownBlock = some k) : k ≠ rb ∧ k ≠ mb := by
  rcases h.row.2 with ⟨h1, _⟩ | ⟨g, cap, cur, h1, h2, h3, h4⟩
  · rw [h1] at hk; simp [Value.ownBlock] at hk
  · rw [h1] at hk
    have e : g = k := by simpa [Value.ownBlock] using hk
    subst e
    refine ⟨fun e => ?_, fun e => ?_⟩
    · rw [e, h.box] at h3; simp at h3
    · obtain ⟨D, ⟨es, cl, hb, _⟩, _⟩ := h.map
      rw [e, hb] at h3; simp at h3
/-- Where the cells lie. -/
theorem Cl.cells (h : Cl B W rb mb sv s) (h0 : 0 < s.rows.length) : ∃ g cap cur, sv = .slice (some ⟨g, 0, none⟩) (s.rows.length * s.w) cap ∧ B ≤ g ∧ W.heap[g]? = some (.cells cur 3 (0, 0)) ∧ s.rows.length * s.w ≤ cap ∧ cap ≤ maxLen ∧ cur.size = cap ∧ cur.toList.take (s.rows.length * s.w) = flat s.w s.rows := by
  have hp : 0 < s.rows.length * s.w := Nat.mul_pos h0 h.ok.w0
  rcases h.row.2 with ⟨_, h2⟩ | ⟨g, cap, cur, h1, h2, h3, h4, h5, h6, h7⟩
  · omega
  · exact ⟨g, cap, cur, h1, h2, h3, h4, h5, by simpa using h6, by simpa using h7⟩
end
theorem len_map {W : World} {mb t : Nat} {D : DataW Unit} (hD : W.ownsMap Tryz.prog 3 (plainElem Tryz.prog 3) mb t D) (n : Nat) (hn : Maps.size D = n) (ty : TypeId) :
    (Builtin.len_ #[272] ty #[.map (some mb)]).run Tryz.prog W = .ok (.int .i64 (n : Int)) W := by
  rw [← hn]; exact hD.len Tryz.underlying272 ty
set_option maxHeartbeats 800000 in
theorem len_any {B : Nat} {W : World} {rb mb : Nat} {sv : Value} {s : CS} (h : Cl B W rb mb sv s) :
    Calls Tryz.prog 203 #[.pointer (some ⟨rb, 0, none⟩)] W fun e W' => e = .returned (.int .i64 (s.rows.length : Int)) ∧ W' = W := by
  have c3 := h.c3
  obtain ⟨D, hD, hH⟩ := h.map
  have hl := len_map hD s.rows.length hH.2
  clear hD hH h
  go_enter Tryz.func203, Tryz.ntmps203
  go_wp2
  go_ret
  exact ⟨rfl, rfl⟩
set_option maxHeartbeats 400000 in
theorem len_nil (W : World) : Calls Tryz.prog 203 #[.pointer none] W fun e W' => e = .returned (.int .i64 0) ∧ W' = W := by
  go_enter Tryz.func203, Tryz.ntmps203
  go_wp2
  go_ret
  exact ⟨rfl, rfl⟩
set_option maxHeartbeats 1600000 in
set_option maxRecDepth 100000 in
/-- The cells of a row: o of them lie ahead of it. -/
theorem crow_any {W : World} {rb g n w L cap o : Nat} (c1 : W.cell? ⟨rb, 1, none⟩ = some (.int .i64 (w : Int))) (c2 : W.cell? ⟨rb, 2, none⟩ = some (.slice (some ⟨g, 0, none⟩) L cap)) (ho : n * w = o) (hL : o + w ≤ L) (hc : L ≤ cap) (hL4 : L ≤ 4000) (hw0 : 1 ≤ w) (hw : w ≤ 4) (hn : n ≤ 1000) :
    Calls Tryz.prog 157 #[.pointer (some ⟨rb, 0, none⟩), .int .i64 (n : Int)] W fun e W' => e = .returned (.slice (some ⟨g, o, none⟩) w (cap - o)) ∧ ∃ m, W' = W.drewN m := by
  have e1 : (n : Int) * (w : Int) = (o : Int) := by rw [← ho]; simp
  have e2 : ((n : Int) + 1) * (w : Int) = ((o + w : Nat) : Int) := by rw [Int.add_mul, e1]; simp
  have b1 : (n : Int) ≤ 1000 := by omega
  have b2 : (o : Int) ≤ 4000 := by omega
  have b3 : ((o + w : Nat) : Int) ≤ (L : Int) := by omega
  have b4 : (L : Int) ≤ (cap : Int) := by omega
  have b5 : (o : Int) ≤ ((o + w : Nat) : Int) := by omega
  have b6 : ((o + w : Nat) : Int) ≤ 4000 := by omega
  have b7 : ((o + w : Nat) : Int) ≤ (cap : Int) := by omega
  have b8 : ¬ (cap = o) := by omega
  have E : Hid (o + w - o = w) := by show o + w - o = w; omega
  clear ho
  go_enter Tryz.func157, Tryz.ntmps157
  go_wp2_with fail
  go_quiet (fail)
  go_wp2
  go_ret
  exact ⟨by rw [E.out]; rfl, _, rfl⟩
end Go.Proofs.YthadfdbkkmmgoaaGreatDoor.Co
namespace Go.Proofs.YthadfdbkkmmgoaaGreatDoor.Co
open Go.RowKit Go.Shelf Go.Maps
/-- The sentinels that a column tells. -/
def three : List Nat := [1, 2, 7]
structure Env3 (w : World) (Ad : Nat → Addr) : Prop where
  cell : ∀ k ∈ three, w.cell? ⟨gv k, 0, none⟩ = some (.iface 330 (.pointer (some (Ad k))))
  sen : ∀ k ∈ three, SenK w (Ad k)
  inj : ∀ i ∈ three, ∀ j ∈ three, Ad i = Ad j → i = j
theorem Env3.later {w w' : World} {Ad : Nat → Addr} (h : Env3 w Ad) (hb : Below w.heap.size w w') : Env3 w' Ad :=
  ⟨fun k hk => seen hb (Nat.le_refl _) (h.cell k hk), fun k hk => (h.sen k hk).below hb (h.sen k hk).lt, h.inj⟩
theorem Env3.c1 {w : World} {Ad : Nat → Addr} (h : Env3 w Ad) : w.cell? ⟨0, 0, none⟩ = some (.iface 330 (.pointer (some (Ad 1)))) := h.cell 1 (by decide)
theorem Env3.c2 {w : World} {Ad : Nat → Addr} (h : Env3 w Ad) : w.cell? ⟨3, 0, none⟩ = some (.iface 330 (.pointer (some (Ad 2)))) := h.cell 2 (by decide)
theorem Env3.c7 {w : World} {Ad : Nat → Addr} (h : Env3 w Ad) : w.cell? ⟨9, 0, none⟩ = some (.iface 330 (.pointer (some (Ad 7)))) := h.cell 7 (by decide)
theorem Env.three {w : World} {Ad : Nat → Addr} (h : Env w Ad) : Env3 w Ad := by
  have R : ∀ k ∈ YthadfdbkkmmgoaaGreatDoor.Co.three, 1 ≤ k ∧ k ≤ 18 := by decide
  exact ⟨fun k hk => h.cell k (R k hk).1 (R k hk).2, fun k hk => h.sen k (R k hk).1 (R k hk).2, fun i hi j hj => h.inj i j (R i hi).1 (R i hi).2 (R j hj).1 (R j hj).2⟩
/-- A sentinel inside Blames, at most ten of them. -/
def Err (Ad : Nat → Addr) (W : World) (v : Value) (k d : Nat) : Prop := ∃ ws, Chn Ad W.heap.size W d v (ws, k)
theorem Err.later {Ad : Nat → Addr} {W W' : World} {v : Value} {k d : Nat} (h : Err Ad W v k d) (hb : Below W.heap.size W W') : Err Ad W' v k d := by
  obtain ⟨ws, h⟩ := h; exact ⟨ws, h.move hb hb.size⟩
theorem Err.shape {Ad : Nat → Addr} {W : World} {v : Value} {k d : Nat} (h : Err Ad W v k d) : ∃ t q, v = .iface t q := by
  obtain ⟨ws, h⟩ := h; obtain ⟨t, q, rfl, _⟩ := h.1.shape; exact ⟨t, q, rfl⟩
theorem err_leaf (Ad : Nat → Addr) (W : World) (k : Nat) (hk : 1 ≤ k ∧ k ≤ 18) : Err Ad W (.iface 330 (.pointer (some (Ad k)))) k 0 := ⟨[], rfl, hk.1, hk.2, Nat.le_refl _⟩
theorem at_err (Ad : Nat → Addr) (s : ByteArray) (v : Value) (k d : Nat) (w : World) (h : Err Ad w v k d) :
    Calls Tryz.prog 38 #[.string s, v] w fun e w' => ∃ t q, e = .returned (.iface t q) ∧ Err Ad w' (.iface t q) k (d + 1) ∧ Below w.heap.size w w' := by
  obtain ⟨ws, h⟩ := h
  refine (at_chain Ad s d v (ws, k) w h).mono ?_
  rintro e w' ⟨v', rfl, hc, hb⟩
  obtain ⟨t, q, rfl, _⟩ := hc.1.shape
  exact ⟨t, q, rfl, ⟨_, hc⟩, hb⟩
set_option maxHeartbeats 800000 in
set_option maxRecDepth 100000 in
theorem new_comp (Ad : Nat → Addr) (W : World) (hE : Env3 W Ad) (c w : Int) (hc : c < 0 ∨ 16 ≤ c) :
    Calls Tryz.prog 188 #[.int .i64 c, .int .i64 w] W fun e W' => ∃ v, e = .returned (.tuple #[.pointer none, v]) ∧ Err Ad W' v 1 1 ∧ Below W.heap.size W W' := by
  have e1 := hE.c1
  have AC := hid (fun s => at_err Ad s _ 1 0 W (err_leaf Ad W 1 (by decide)))
  clear hE
  rcases hc with hc | hc
  · go_enter Tryz.func188, Tryz.ntmps188
    go_wp2_with fail
    refine (AC.out _).mono ?_
    rintro e w1 ⟨t, q, rfl, hv, hb⟩
    have HV := hid hv
    have HB := hid hb
    clear hv hb e1 AC
    go_wp2_with fail
    go_ret2
    exact ⟨_, rfl, HV.out, HB.out⟩
  · have h0 : ¬ (c < 0) := by omega
    go_enter Tryz.func188, Tryz.ntmps188
    go_wp2_with fail
    refine (AC.out _).mono ?_
    rintro e w1 ⟨t, q, rfl, hv, hb⟩
    have HV := hid hv
    have HB := hid hb
    clear hv hb e1 AC
    go_wp2_with fail
    go_ret2
    exact ⟨_, rfl, HV.out, HB.out⟩
set_option maxHeartbeats 800000 in
set_option maxRecDepth 100000 in
theorem new_width (Ad : Nat → Addr) (W : World) (hE : Env3 W Ad) (c w : Int) (h0 : 0 ≤ c) (h1 : c ≤ 15) (hw : w < 1 ∨ 4 < w) :
    Calls Tryz.prog 188 #[.int .i64 c, .int .i64 w] W fun e W' => ∃ v, e = .returned (.tuple #[.pointer none, v]) ∧ Err Ad W' v 1 1 ∧ Below W.heap.size W W' := by
  have e1 := hE.c1
  have h2 : ¬ (c < 0) := by omega
  have h3 : ¬ (16 ≤ c) := by omega
  have AC := hid (fun s => at_err Ad s _ 1 0 W (err_leaf Ad W 1 (by decide)))
  clear hE
  rcases hw with hc | hc
  · go_enter Tryz.func188, Tryz.ntmps188
    go_wp2_with fail
    refine (AC.out _).mono ?_
    rintro e w1 ⟨t, q, rfl, hv, hb⟩
    have HV := hid hv
    have HB := hid hb
    clear hv hb e1 AC
    go_wp2_with fail
    go_ret2
    exact ⟨_, rfl, HV.out, HB.out⟩
  · have h4 : ¬ (w < 1) := by omega
    go_enter Tryz.func188, Tryz.ntmps188
    go_wp2_with fail
    refine (AC.out _).mono ?_
    rintro e w1 ⟨t, q, rfl, hv, hb⟩
    have HV := hid hv
    have HB := hid hb
    clear hv hb e1 AC
    go_wp2_with fail
    go_ret2
    exact ⟨_, rfl, HV.out, HB.out⟩
set_option maxHeartbeats 800000 in
set_option maxRecDepth 100000 in
theorem new_some (W : World) (c : Int) (w : Nat) (h0 : 0 ≤ c) (h1 : c ≤ 15) (hw0 : 1 ≤ w) (hw : w ≤ 4) :
    Calls Tryz.prog 188 #[.int .i64 c, .int .i64 (w : Int)] W fun e W' => e = .returned (.tuple #[.pointer (some ⟨W.heap.size + 1, 0, none⟩), .nilIface]) ∧ Cl W.heap.size W' (W.heap.size + 1) W.heap.size (.slice none 0 0) ⟨c, w, []⟩ ∧ Below W.heap.size W W' := by
  have h2 : ¬ (c < 0) := by omega
  have h3 : ¬ (16 ≤ c) := by omega
  have h4 : ¬ ((w : Int) < 1) := by omega
  have h5 : ¬ (4 < (w : Int)) := by omega
  have hmm := run_makeMap (P := Tryz.prog) 272
  have K : Hid (Cl W.heap.size ((W.alloc (.map #[] 0)).alloc (.cells #[.int .i64 c, .int .i64 (w : Int), .slice none 0 0, .map (some W.heap.size)] 274)) (W.heap.size + 1) W.heap.size (.slice none 0 0) ⟨c, w, []⟩ ∧ Below W.heap.size W ((W.alloc (.map #[] 0)).alloc (.cells #[.int .i64 c, .int .i64 (w : Int), .slice none 0 0, .map (some W.heap.size)] 274))) := by
    refine ⟨⟨?_, ?_, ?_, ⟨hw0, hw, by simp⟩, by simp, by omega⟩, (bAl W _).alloc (by simp) _⟩
    · have := heap_alloc_new (W.alloc (.map #[] 0)) (.cells #[.int .i64 c, .int .i64 (w : Int), .slice none 0 0, .map (some W.heap.size)] 274)
      simpa using this
    · have := World.ownsRow_nil ((W.alloc (.map #[] 0)).alloc (.cells #[.int .i64 c, .int .i64 (w : Int), .slice none 0 0, .map (some W.heap.size)] 274)) W.heap.size 3 1
      simpa [flat] using this
    · have := World.ownsMap_made W Tryz.prog 3 (plainElem (H := Unit) Tryz.prog 3)
      refine ⟨_, this.alloc _, fun i _ => ?_, rfl⟩
      have e : rowAt [] i = none := by unfold rowAt; split <;> simp
      unfold tickAt
      rw [e]
      exact ⟨rfl, rfl⟩
  go_enter Tryz.func188, Tryz.ntmps188
  go_wp2_with fail
  go_ret2
  exact ⟨rfl, K.out.1, K.out.2⟩
/-- The value that the function f is. -/
def fv36 : Value := .func (.func 209) #[] #[]
set_option maxHeartbeats 400000 in
theorem nz_any (x : Int) (W : World) : Calls Tryz.prog 209 #[.int .i64 x] W fun e W' => e = .returned (.bool (!(x == 0))) ∧ W' = W := by
  go_enter Tryz.func209, Tryz.ntmps209
  go_wp2
  go_ret
  exact ⟨rfl, rfl⟩
end Go.Proofs.YthadfdbkkmmgoaaGreatDoor.Co
namespace Go.Proofs.YthadfdbkkmmgoaaGreatDoor.Co
open Go.RowKit Go.Shelf Go.Maps
def nzB (x : Int) : Bool := !(x == 0)
/-- Numbers in memory. -/
def Nums (W : World) (b o : Nat) (xs : List Int) : Prop := ∀ (j : Nat) x, xs[j]? = some x → W.cell? ⟨b, o + j, none⟩ = some (.int .i64 x)
theorem any_next {xs : List Int} {k : Nat} {x : Int} (h : xs[k]? = some x) : (xs.take (k + 1)).any nzB = ((xs.take k).any nzB || nzB x) := by
  rw [take_next h, List.any_append]; simp
theorem any_hit {xs : List Int} {k : Nat} {x : Int} (h : xs[k]? = some x) (hx : nzB x = true) : xs.any nzB = true := List.any_eq_true.2 ⟨x, List.mem_of_getElem? h, hx⟩
set_option maxHeartbeats 800000 in
set_option maxRecDepth 100000 in
theorem index_any (W : World) (b o c : Nat) (xs : List Int) (hn : xs.length ≤ 4) (hm : Nums W b o xs) :
    Calls Tryz.prog 159 #[.slice (some ⟨b, o, none⟩) xs.length c, .func (.func 209) #[] #[]] W fun e W' => ∃ r : Int, e = .returned (.int .i64 r) ∧ decide (0 ≤ r) = xs.any nzB ∧ W' = W := by
  have HM := hid hm
  clear hm
  have NZ := hid nz_any
  have hni : (xs.length : Int) ≤ 4 := by omega
  go_enter Tryz.func159, Tryz.ntmps159
  go_wp2_with fail
  go_loop [5, 8] (fun _ i => ∃ k : Nat, k ≤ xs.length ∧ i = .int .i64 (k : Int) ∧ Hid ((xs.take k).any nzB = false)) (fun _ i => xs.length - (intOf i).toNat)
  case atStart => exact ⟨0, Nat.zero_le _, rfl, rfl⟩
  case round =>
    obtain ⟨k, hk, rfl, HA⟩ := hrel
    by_cases hlt : k < xs.length
    · have hki : (k : Int) < (xs.length : Int) := by omega
      obtain ⟨x, hx⟩ := at_lt xs k hlt
      have c0 := HM.out k x hx
      have AN := hid (any_next hx)
      have AH := hid (any_hit hx)
      clear hx
      by_cases h0 : x = 0
      · have e0 : (x == 0) = true := by simp [h0]
        have E : Hid ((xs.take (k + 1)).any nzB = false) := by show _ = _; rw [AN.out, HA.out]; simp [nzB, e0]
        clear h0 AH
        go_wp2_with fail
        refine (NZ.out _ _).mono ?_
        rintro e w1 ⟨rfl, rfl⟩
        go_wp2_with fail
        go_round
        case rel => exact ⟨k + 1, by omega, by go_num, E.out⟩
        case measure => simp [intOf]; omega
      · have e0 : (x == 0) = false := by simp [h0]
        have E : Hid (xs.any nzB = true) := AH.out (by simp [nzB, e0])
        clear h0 AH
        go_wp2_with fail
        refine (NZ.out _ _).mono ?_
        rintro e w1 ⟨rfl, rfl⟩
        go_wp2_with fail
        go_ret
        exact ⟨_, rfl, by rw [E.out]; simp, rfl⟩
    · have hki : ¬ ((k : Int) < (xs.length : Int)) := by omega
      have E : Hid (xs.any nzB = false) := by
        have := HA.out
        rw [List.take_of_length_le (by omega)] at this
        exact this
      go_wp2_with fail
      go_ret
      exact ⟨_, rfl, by rw [E.out]; simp, rfl⟩
set_option maxHeartbeats 800000 in
theorem contains_any (W : World) (b o c : Nat) (xs : List Int) (hn : xs.length ≤ 4) (hm : Nums W b o xs) :
    Calls Tryz.prog 130 #[.slice (some ⟨b, o, none⟩) xs.length c, .func (.func 209) #[] #[]] W fun e W' => e = .returned (.bool (xs.any nzB)) ∧ W' = W := by
  have IX := hid (index_any W b o c xs hn hm)
  clear hm
  go_enter Tryz.func130, Tryz.ntmps130
  go_wp2_with fail
  refine IX.out.mono ?_
  rintro e w1 ⟨r, rfl, hr, rfl⟩
  have HR := hid hr
  clear hr IX
  go_wp2_with fail
  go_ret
  exact ⟨by rw [← HR.out]; rfl, rfl⟩
theorem fit_any (w : Nat) (p : Pt) : (p.cs.drop w).any nzB = !(p.fitB w) := by
  unfold Pt.fitB
  generalize p.cs.drop w = l
  induction l with
  | nil => rfl
  | cons x l ih => rw [List.any_cons, List.all_cons, ih, Bool.not_and]; rfl
/-- The cells behind the width, in memory. -/
theorem nums_behind {W : World} {b : Nat} {cm : Int} {p : Pt} (h : W.heap[b]? = some (.cells (p.arr cm) 89 (0, 0))) (w : Nat) : Nums W b (1 + w) (p.cs.drop w) := by
  intro j x hx
  refine cell_blk h ?_
  rw [List.getElem?_drop] at hx
  generalize hq : w + j = q at hx
  rw [show 1 + w + j = q + 1 by omega]
  match q, hx with
  | 0, hx => simp [Pt.cs] at hx; subst hx; rfl
  | 1, hx => simp [Pt.cs] at hx; subst hx; rfl
  | 2, hx => simp [Pt.cs] at hx; subst hx; rfl
  | 3, hx => simp [Pt.cs] at hx; subst hx; rfl
  | q + 4, hx => simp [Pt.cs] at hx
theorem drewN_below (W : World) (m : Nat) : Below W.heap.size W (W.drewN m) := by
  induction m generalizing W with
  | zero => exact Below.refl _ _
  | succ m ih => exact (ih W).drew
set_option maxHeartbeats 1600000 in
set_option maxRecDepth 100000 in
theorem check_comp (Ad : Nat → Addr) {B : Nat} {W : World} {rb mb : Nat} {sv : Value} {s : CS} (h : Cl B W rb mb sv s) (hE : Env3 W Ad) (cm : Int) (p : Pt) (hc : cm ≠ s.comp) :
    Calls Tryz.prog 202 #[.pointer (some ⟨rb, 0, none⟩), p.val cm] W fun e W' => ∃ t q, e = .returned (.iface t q) ∧ Err Ad W' (.iface t q) 1 1 ∧ Below W.heap.size W W' := by
  obtain ⟨W1, hW1⟩ : ∃ W1, W1 = W.alloc (.cells (p.arr cm) 89) := ⟨_, rfl⟩
  have BA : Hid (Below W.heap.size W W1) := by rw [hW1]; exact bAl _ _
  have e1 := (hE.later BA.out).c1
  have q0 := (h.later BA.out).c0
  have d0 : W1.cell? ⟨W.heap.size, 0, none⟩ = some (.int .i64 cm) := by rw [hW1]; exact cell_blk (heap_alloc_new W (.cells (p.arr cm) 89)) rfl
  have hne : (cm != s.comp) = true := by simp [hc]
  have AC := hid (fun s m => at_err Ad s _ 1 0 (W1.drewN m) (err_leaf Ad _ 1 (by decide)))
  have HW1 := hid hW1
  clear hE h hc hW1
  unfold Pt.val
  unfold Pt.arr at HW1
  go_enter Tryz.func202, Tryz.ntmps202
  go_wp2_with fail
  rw [← HW1.out]
  go_quiet (fail)
  go_wp2_with fail
  refine (AC.out _ _).mono ?_
  rintro e w2 ⟨t, q, rfl, hv, hb⟩
  have HV := hid hv
  have HB := hid (BA.out.trans ((drewN_below W1 nq).trans (hb.mono (drewN_below W1 nq).size) |>.mono BA.out.size))
  clear hv hb AC
  go_wp2_with fail
  go_ret
  exact ⟨t, q, rfl, HV.out, HB.out⟩
theorem fit4 (p : Pt) : p.fitB 4 = true := rfl
set_option maxHeartbeats 1600000 in
set_option maxRecDepth 100000 in
theorem check_vals (Ad : Nat → Addr) {B : Nat} {W : World} {rb mb : Nat} {sv : Value} {s : CS} (h : Cl B W rb mb sv s) (hE : Env3 W Ad) (p : Pt) (hf : p.fitB s.w = false) :
    Calls Tryz.prog 202 #[.pointer (some ⟨rb, 0, none⟩), p.val s.comp] W fun e W' => ∃ t q, e = .returned (.iface t q) ∧ Err Ad W' (.iface t q) 1 1 ∧ Below W.heap.size W W' := by
  obtain ⟨W1, hW1⟩ : ∃ W1, W1 = W.alloc (.cells (p.arr s.comp) 89) := ⟨_, rfl⟩
  have BA : Hid (Below W.heap.size W W1) := by rw [hW1]; exact bAl _ _
  have e1 := (hE.later BA.out).c1
  have q0 := (h.later BA.out).c0
  have q1 := (h.later BA.out).c1
  have hh : W1.heap[W.heap.size]? = some (.cells (p.arr s.comp) 89 (0, 0)) := by rw [hW1]; exact heap_alloc_new W (.cells (p.arr s.comp) 89)
  have d0 : W1.cell? ⟨W.heap.size, 0, none⟩ = some (.int .i64 s.comp) := cell_blk hh rfl
  have hn4 : ¬ (4 = s.w) := fun e => by rw [← e, fit4] at hf; cases hf
  have hw4 : (s.w : Int) ≤ 4 := by have := h.ok.w4; omega
  have hz4 : ¬ (s.w = 4) := by omega
  have CO := hid (fun m => contains_any (W1.drewN m) W.heap.size (1 + s.w) (4 - s.w) (p.cs.drop s.w) (by simp [Pt.cs]) (by
    intro j x hx
    exact seen (drewN_below W1 m) (Nat.le_refl _) (nums_behind hh s.w j x hx)))
  rw [fit_any, hf, show (p.cs.drop s.w).length = 4 - s.w by simp [Pt.cs]] at CO
  have AC := hid (fun s m => at_err Ad s _ 1 0 (W1.drewN m) (err_leaf Ad _ 1 (by decide)))
  have HW1 := hid hW1
  generalize s.comp = cm at *
  generalize s.w = sw at *
  clear hE h hf hW1 hh
  unfold Pt.val
  unfold Pt.arr at HW1
  go_enter Tryz.func202, Tryz.ntmps202
  go_wp2_with fail
  rw [← HW1.out]
  go_quiet (fail)
  go_wp2_with fail
  refine (CO.out _).mono ?_
  rintro e w2 ⟨rfl, rfl⟩
  go_wp2_with fail
  refine (AC.out _ _).mono ?_
  rintro e w2 ⟨t, q, rfl, hv, hb⟩
  have HV := hid hv
  have HB := hid (BA.out.trans ((drewN_below W1 nq).trans (hb.mono (drewN_below W1 nq).size) |>.mono BA.out.size))
  clear hv hb AC CO
  go_wp2_with fail
  go_ret
  exact ⟨t, q, rfl, HV.out, HB.out⟩
set_option maxHeartbeats 1600000 in
set_option maxRecDepth 100000 in
theorem check_ok {B : Nat} {W : World} {rb mb : Nat} {sv : Value} {s : CS} (h : Cl B W rb mb sv s) (p : Pt) (hf : p.fitB s.w = true) :
    Calls Tryz.prog 202 #[.pointer (some ⟨rb, 0, none⟩), p.val s.comp] W fun e W' => e = .returned .nilIface ∧ Below W.heap.size W W' := by
  obtain ⟨W1, hW1⟩ : ∃ W1, W1 = W.alloc (.cells (p.arr s.comp) 89) := ⟨_, rfl⟩
  have BA : Hid (Below W.heap.size W W1) := by rw [hW1]; exact bAl _ _
  have q0 := (h.later BA.out).c0
  have q1 := (h.later BA.out).c1
  have hh : W1.heap[W.heap.size]? = some (.cells (p.arr s.comp) 89 (0, 0)) := by rw [hW1]; exact heap_alloc_new W (.cells (p.arr s.comp) 89)
  have d0 : W1.cell? ⟨W.heap.size, 0, none⟩ = some (.int .i64 s.comp) := cell_blk hh rfl
  have hw := h.ok.w4
  have HW1 := hid hW1
  by_cases h4 : s.w = 4
  · have CO := hid (fun m => contains_any (W1.drewN m) W.heap.size 1 0 [] (by simp) (by intro j x hx; simp at hx))
    have CO : Hid (∀ m, Calls Tryz.prog 130 #[.slice (some ⟨W.heap.size, 1, none⟩) 0 0, .func (.func 209) #[] #[]] (W1.drewN m) fun e W' => e = .returned (.bool false) ∧ W' = W1.drewN m) := CO.out
    rw [h4] at q1
    generalize s.comp = cm at *
    clear h hf hW1 hh hw h4
    unfold Pt.val
    unfold Pt.arr at HW1
    go_enter Tryz.func202, Tryz.ntmps202
    go_wp2_with fail
    rw [← HW1.out]
    go_quiet (fail)
    go_wp2_with fail
    refine (CO.out _).mono ?_
    rintro e w2 ⟨rfl, rfl⟩
    go_wp2_with fail
    go_ret
    exact ⟨rfl, BA.out.trans ((drewN_below W1 nq).mono BA.out.size)⟩
  · have hn4 : ¬ (4 = s.w) := by omega
    have hw4 : (s.w : Int) ≤ 4 := by omega
    have hz4 : ¬ (s.w = 4) := by omega
    have CO := hid (fun m => contains_any (W1.drewN m) W.heap.size (1 + s.w) (4 - s.w) (p.cs.drop s.w) (by simp [Pt.cs]) (by
      intro j x hx
      exact seen (drewN_below W1 m) (Nat.le_refl _) (nums_behind hh s.w j x hx)))
    rw [fit_any, hf, show (p.cs.drop s.w).length = 4 - s.w by simp [Pt.cs]] at CO
    generalize s.comp = cm at *
    generalize s.w = sw at *
    clear h hf hW1 hh
    unfold Pt.val
    unfold Pt.arr at HW1
    go_enter Tryz.func202, Tryz.ntmps202
    go_wp2_with fail
    rw [← HW1.out]
    go_quiet (fail)
    go_wp2_with fail
    refine (CO.out _).mono ?_
    rintro e w2 ⟨rfl, rfl⟩
    go_wp2_with fail
    go_ret
    exact ⟨rfl, BA.out.trans ((drewN_below W1 nq).mono BA.out.size)⟩
end Go.Proofs.YthadfdbkkmmgoaaGreatDoor.Co
namespace Go.Proofs.YthadfdbkkmmgoaaGreatDoor.Co
open Go.RowKit Go.Shelf Go.Maps
/-- A part stored over a part. -/
def put6 (W : World) (b : Nat) (cm : Int) (p : Pt) : World := (((((W.setCell ⟨b, 0, none⟩ (.int .i64 cm)).setCell ⟨b, 1, none⟩ (.int .i64 p.a)).setCell ⟨b, 2, none⟩ (.int .i64 p.b)).setCell ⟨b, 3, none⟩ (.int .i64 p.c)).setCell ⟨b, 4, none⟩ (.int .i64 p.d)).setCell ⟨b, 5, none⟩ (.int .i64 p.t)
theorem put6_blk {W : World} {b : Nat} {cs : Array Value} {e : TypeId} (h : W.heap[b]? = some (.cells cs e (0, 0))) (hs : cs.size = 6) (cm : Int) (p : Pt) : (put6 W b cm p).heap[b]? = some (.cells (p.arr cm) e (0, 0)) := by
  have h1 := heap_setCell_same W b 0 cs e (.int .i64 cm) h
  have h2 := heap_setCell_same _ b 1 _ e (.int .i64 p.a) h1
  have h3 := heap_setCell_same _ b 2 _ e (.int .i64 p.b) h2
  have h4 := heap_setCell_same _ b 3 _ e (.int .i64 p.c) h3
  have h5 := heap_setCell_same _ b 4 _ e (.int .i64 p.d) h4
  have h6 := heap_setCell_same _ b 5 _ e (.int .i64 p.t) h5
  unfold put6
  rw [h6]
  clear h h1 h2 h3 h4 h5 h6
  have e : ((((((cs.setIfInBounds 0 (.int .i64 cm)).setIfInBounds 1 (.int .i64 p.a)).setIfInBounds 2 (.int .i64 p.b)).setIfInBounds 3 (.int .i64 p.c)).setIfInBounds 4 (.int .i64 p.d)).setIfInBounds 5 (.int .i64 p.t)) = p.arr cm := by
    apply Array.toList_inj.1
    obtain ⟨l⟩ := cs
    match l, hs with
    | [x0, x1, x2, x3, x4, x5], _ => simp [Pt.arr]
  rw [e]
theorem put6_st (W : World) (b : Nat) (cm : Int) (p : Pt) : St (fun k => k = b) W (put6 W b cm p) := by
  unfold put6
  have q : ∀ x, x < W.heap.size → (fun k => k = b) x → (fun k => k = b) x := fun _ _ h => h
  exact (((((St.setCell (S := fun k => k = b) (p := ⟨b, 0, none⟩) _ rfl).trans (St.setCell (S := fun k => k = b) (p := ⟨b, 1, none⟩) _ rfl) fun _ _ h => h).trans (St.setCell (S := fun k => k = b) (p := ⟨b, 2, none⟩) _ rfl) fun _ _ h => h).trans (St.setCell (S := fun k => k = b) (p := ⟨b, 3, none⟩) _ rfl) fun _ _ h => h).trans (St.setCell (S := fun k => k = b) (p := ⟨b, 4, none⟩) _ rfl) fun _ _ h => h).trans (St.setCell (S := fun k => k = b) (p := ⟨b, 5, none⟩) _ rfl) fun _ _ h => h
def Pt.zero : Pt := ⟨0, 0, 0, 0, 0⟩
theorem set_same {W : World} {b j : Nat} {cs : Array Value} {e : TypeId} {u : Value} (h : W.heap[b]? = some (.cells cs e (0, 0))) (hj : cs[j]? = some u) : W.setCell ⟨b, j, none⟩ u = W := by
  have e : (W.setCell ⟨b, j, none⟩ u).heap = W.heap := by
    apply Array.ext_getElem?
    intro k
    by_cases hk : k = b
    · subst hk
      rw [heap_setCell_same W k j cs e u h, h]
      have : cs.setIfInBounds j u = cs := by
        apply Array.ext_getElem?
        intro m
        rw [Array.getElem?_setIfInBounds]
        split
        · rename_i hm
          subst hm
          have := (Array.getElem?_eq_some_iff.1 hj).1
          rw [if_pos this, hj]
        · rfl
      rw [this]
    · exact Below.heap_setCell _ _ _ _ hk
  unfold World.setCell at e ⊢
  cases W
  simp at e ⊢
  exact e
theorem put6_same {W : World} {b : Nat} {e : TypeId} {cm : Int} {p : Pt} (h : W.heap[b]? = some (.cells (p.arr cm) e (0, 0))) : put6 W b cm p = W := by
  unfold put6
  rw [set_same h rfl, set_same h rfl, set_same h rfl, set_same h rfl, set_same h rfl, set_same h rfl]
/-- A part that lies in memory: its cells, and that they may be written. -/
structure Lies (W : World) (b : Nat) (cm : Int) (p : Pt) : Prop where
  c0 : W.cell? ⟨b, 0, none⟩ = some (.int .i64 cm)
  c1 : W.cell? ⟨b, 1, none⟩ = some (.int .i64 p.a)
  c2 : W.cell? ⟨b, 2, none⟩ = some (.int .i64 p.b)
  c3 : W.cell? ⟨b, 3, none⟩ = some (.int .i64 p.c)
  c4 : W.cell? ⟨b, 4, none⟩ = some (.int .i64 p.d)
  c5 : W.cell? ⟨b, 5, none⟩ = some (.int .i64 p.t)
  f0 : W.frozen? ⟨b, 0, none⟩ = false
  f1 : W.frozen? ⟨b, 1, none⟩ = false
  f2 : W.frozen? ⟨b, 2, none⟩ = false
  f3 : W.frozen? ⟨b, 3, none⟩ = false
  f4 : W.frozen? ⟨b, 4, none⟩ = false
  f5 : W.frozen? ⟨b, 5, none⟩ = false
theorem lies {W : World} {b : Nat} {cm : Int} {p : Pt} {e : TypeId} (h : W.heap[b]? = some (.cells (p.arr cm) e (0, 0))) : Lies W b cm p :=
  ⟨cell_blk h rfl, cell_blk h rfl, cell_blk h rfl, cell_blk h rfl, cell_blk h rfl, cell_blk h rfl, blk_free h 0, blk_free h 1, blk_free h 2, blk_free h 3, blk_free h 4, blk_free h 5⟩
set_option maxHeartbeats 800000 in
set_option maxRecDepth 100000 in
theorem row_nil (Ad : Nat → Addr) (W : World) (hE : Env3 W Ad) (i : Int) :
    Calls Tryz.prog 124 #[.pointer none, .int .i64 i] W fun e W' => ∃ t q, e = .returned (.tuple #[.agg #[.int .i64 0, .int .i64 0, .int .i64 0, .int .i64 0, .int .i64 0, .int .i64 0], .iface t q]) ∧ Err Ad W' (.iface t q) 2 1 ∧ Below W.heap.size W W' := by
  have BA : Hid (Below W.heap.size W (W.alloc (.cells #[.int .i64 0, .int .i64 0, .int .i64 0, .int .i64 0, .int .i64 0, .int .i64 0] 89))) := bAl _ _
  have e2 := hE.c2
  have hl := World.block_lt_of_cell? W _ e2
  have hn := World.new_ne W _ e2
  have AC := hid (fun s => at_err Ad s _ 2 0 (W.alloc (.cells #[.int .i64 0, .int .i64 0, .int .i64 0, .int .i64 0, .int .i64 0, .int .i64 0] 89)) (err_leaf Ad _ 2 (by decide)))
  clear hE
  go_enter Tryz.func124, Tryz.ntmps124
  go_wp2_with fail
  refine (AC.out _).mono ?_
  rintro e w1 ⟨t, q, rfl, hv, hb⟩
  have HV := hid hv
  have HB := hid (BA.out.trans (hb.mono BA.out.size))
  have HH : Hid (w1.heap[W.heap.size]? = some (.cells (Pt.zero.arr 0) 89 (0, 0))) := blk_seen hb (Nat.le_refl _) (heap_alloc_new W (.cells #[.int .i64 0, .int .i64 0, .int .i64 0, .int .i64 0, .int .i64 0, .int .i64 0] 89))
  obtain ⟨d0, d1, d2, d3, d4, d5, f0, f1, f2, f3, f4, f5⟩ := lies HH.out
  unfold Pt.zero at d1 d2 d3 d4 d5
  clear hv hb e2 hl hn AC
  go_wp2_with fail
  have PS := put6_same HH.out
  unfold put6 Pt.zero at PS
  rw [PS]
  exact bodyPost_ret (v := .tuple #[.agg #[.int .i64 0, .int .i64 0, .int .i64 0, .int .i64 0, .int .i64 0, .int .i64 0], .iface t q]) (by simp [results, Tryz.results124, go_sem, d0, d1, d2, d3, d4, d5]) rfl ⟨t, q, rfl, HV.out, HB.out⟩
set_option maxHeartbeats 800000 in
set_option maxRecDepth 100000 in
theorem row_none (Ad : Nat → Addr) {B : Nat} {W : World} {rb mb : Nat} {sv : Value} {s : CS} (h : Cl B W rb mb sv s) (hE : Env3 W Ad) (i : Int) (hi : I64 i) (hr : rowAt s.rows i = none) :
    Calls Tryz.prog 124 #[.pointer (some ⟨rb, 0, none⟩), .int .i64 i] W fun e W' => ∃ t q, e = .returned (.tuple #[.agg #[.int .i64 0, .int .i64 0, .int .i64 0, .int .i64 0, .int .i64 0, .int .i64 0], .iface t q]) ∧ Err Ad W' (.iface t q) 7 1 ∧ Below W.heap.size W W' := by
  have BA : Hid (Below W.heap.size W (W.alloc (.cells #[.int .i64 0, .int .i64 0, .int .i64 0, .int .i64 0, .int .i64 0, .int .i64 0] 89))) := bAl _ _
  have e2 := hE.c7
  have hl := World.block_lt_of_cell? W _ e2
  have hn := World.new_ne W _ e2
  have c3 := h.c3
  have hrl := World.block_lt_of_cell? W _ c3
  have hrn := World.new_ne W _ c3
  obtain ⟨D, hD, hH⟩ := (h.later BA.out).map
  have LK := look_two hD hH i hi
  rw [hr] at LK
  generalize tickAt s.rows i = tk at LK
  have AC := hid (fun s => at_err Ad s _ 7 0 (W.alloc (.cells #[.int .i64 0, .int .i64 0, .int .i64 0, .int .i64 0, .int .i64 0, .int .i64 0] 89)) (err_leaf Ad _ 7 (by decide)))
  clear hE hD hH h hr
  go_enter Tryz.func124, Tryz.ntmps124
  go_wp2_with fail
  refine (AC.out _).mono ?_
  rintro e w1 ⟨t, q, rfl, hv, hb⟩
  have HV := hid hv
  have HB := hid (BA.out.trans (hb.mono BA.out.size))
  have HH : Hid (w1.heap[W.heap.size]? = some (.cells (Pt.zero.arr 0) 89 (0, 0))) := blk_seen hb (Nat.le_refl _) (heap_alloc_new W (.cells #[.int .i64 0, .int .i64 0, .int .i64 0, .int .i64 0, .int .i64 0, .int .i64 0] 89))
  obtain ⟨d0, d1, d2, d3, d4, d5, f0, f1, f2, f3, f4, f5⟩ := lies HH.out
  unfold Pt.zero at d1 d2 d3 d4 d5
  clear hv hb e2 hl hn AC LK
  go_wp2_with fail
  have PS := put6_same HH.out
  unfold put6 Pt.zero at PS
  rw [PS]
  exact bodyPost_ret (v := .tuple #[.agg #[.int .i64 0, .int .i64 0, .int .i64 0, .int .i64 0, .int .i64 0, .int .i64 0], .iface t q]) (by simp [results, Tryz.results124, go_sem, d0, d1, d2, d3, d4, d5]) rfl ⟨t, q, rfl, HV.out, HB.out⟩
end Go.Proofs.YthadfdbkkmmgoaaGreatDoor.Co
namespace Go.Proofs.YthadfdbkkmmgoaaGreatDoor.Co
open Go.RowKit Go.Shelf Go.Maps
theorem infoInt : (Tryz.prog.info? 3).map (·.size) = some 1 := by kernel_rfl
theorem add_at2 (g o j : Nat) : (⟨g, o, none⟩ : Addr).add j = ⟨g, o + j, none⟩ := by unfold Addr.add; split <;> simp_all
/-- The cells of a row lie where the row lies. -/
theorem row_cells {W : World} {g L : Nat} {cur : Array Value} {w : Nat} {l : List Pt} {n : Nat} {p : Pt} (hg : W.heap[g]? = some (.cells cur 3 (0, 0))) (hL : cur.toList.take L = flat w l) (hw : w ≤ 4) (hn : l[n]? = some p) :
    ∀ (j : Nat) (v : Value), (p.row w)[j]? = some v → W.cell? ((⟨g, n * w, none⟩ : Addr).add j) = some v := by
  intro j v hv
  have hj : j < w := by have := (List.getElem?_eq_some_iff.1 hv).1; rw [p.row_len hw] at this; exact this
  rw [add_at2]
  refine cell_blk hg ?_
  have h1 := flat_at hw hn hj
  rw [← hL, hv, List.getElem?_take] at h1
  split at h1
  · simpa using h1
  · cases h1
set_option maxHeartbeats 1600000 in
set_option maxRecDepth 100000 in
theorem row_some {B : Nat} {W : World} {rb mb : Nat} {sv : Value} {s : CS} (h : Cl B W rb mb sv s) (n : Nat) (p : Pt) (hp : s.rows[n]? = some p) :
    Calls Tryz.prog 124 #[.pointer (some ⟨rb, 0, none⟩), .int .i64 (n : Int)] W fun e W' => e = .returned (.tuple #[p.val s.comp, .nilIface]) ∧ Below W.heap.size W W' := by
  have hnl : n < s.rows.length := (List.getElem?_eq_some_iff.1 hp).1
  have hsm := h.small
  obtain ⟨g, cap, cur, hsv, hBg, hg, hLc, hcm, hcs, hfl⟩ := h.cells (by omega)
  subst hsv
  have hfit := (h.ok.fit p (List.mem_of_getElem? hp)).1
  have hw0 := h.ok.w0
  have hw4 := h.ok.w4
  have hnw : n * s.w + s.w ≤ s.rows.length * s.w := by rw [← Nat.succ_mul]; exact Nat.mul_le_mul_right _ hnl
  have hL4 : s.rows.length * s.w ≤ 4000 := by have := Nat.mul_le_mul hsm hw4; omega
  have c0 := h.c0
  have c1 := h.c1
  have c2 := h.c2
  have c3 := h.c3
  have hrl := World.block_lt_of_cell? W _ c3
  have hrn := World.new_ne W _ c3
  have hrn2 : ¬ (rb = W.heap.size + 1) := by have : rb < W.heap.size := hrl; omega
  obtain ⟨D, hD, hH⟩ := (h.later (bAl W (.cells #[.int .i64 0, .int .i64 0, .int .i64 0, .int .i64 0, .int .i64 0, .int .i64 0] 89))).map
  have LK := look_two hD hH (n : Int) (I64_mid (by omega) (by omega))
  unfold tickAt at LK
  rw [rowAt_nat, hp] at LK
  simp only [Option.isSome_some] at LK
  obtain ⟨W3, hW3⟩ : ∃ W3, W3 = (W.alloc (.cells #[.int .i64 0, .int .i64 0, .int .i64 0, .int .i64 0, .int .i64 0, .int .i64 0] 89)).alloc (.cells #[.int .i64 s.comp, .int .i64 0, .int .i64 0, .int .i64 0, .int .i64 0, .int .i64 p.t] 89) := ⟨_, rfl⟩
  have b3 : Below W.heap.size W W3 := by rw [hW3]; exact (bAl W _).alloc (by simp) _
  have r3 : W3.heap[W.heap.size]? = some (.cells (Pt.zero.arr 0) 89 (0, 0)) := by
    rw [hW3, Below.heap_alloc _ _ _ (by simp)]; exact heap_alloc_new W _
  have p3 : W3.heap[W.heap.size + 1]? = some (.cells ((⟨0, 0, 0, 0, p.t⟩ : Pt).arr s.comp) 89 (0, 0)) := by
    have := heap_alloc_new (W.alloc (.cells #[.int .i64 0, .int .i64 0, .int .i64 0, .int .i64 0, .int .i64 0, .int .i64 0] 89)) (.cells #[.int .i64 s.comp, .int .i64 0, .int .i64 0, .int .i64 0, .int .i64 0, .int .i64 p.t] 89)
    rw [World.size_alloc] at this
    rw [hW3]; exact this
  have g3 := blk_seen b3 (Nat.le_refl _) hg
  have k1 := seen b3 (Nat.le_refl _) c1
  have k2 := seen b3 (Nat.le_refl _) c2
  -- the copy
  have src : ∀ m (j : Nat) (v : Value), (p.row s.w)[j]? = some v → (W3.drewN m).cell? ((⟨g, n * s.w, none⟩ : Addr).add j) = some v := fun m => row_cells (W := W3.drewN m) g3 hfl hw4 hp
  have CP : ∀ m ty, (Builtin.copy_ #[68, 68] ty #[.slice (some ⟨W.heap.size + 1, 1, none⟩) 4 4, .slice (some ⟨g, n * s.w, none⟩) s.w (cap - n * s.w)]).run Tryz.prog (W3.drewN m) = .ok (.int .i64 (s.w : Int)) ((W3.drewN m).setRow (W.heap.size + 1) (p.arr s.comp)) := by
    intro m ty
    have hh := run_copy_row (P := Tryz.prog) (W3.drewN m) 68 68 ty 3 (W.heap.size + 1) 1 4 4 ⟨g, n * s.w, none⟩ s.w (cap - n * s.w) ((⟨0, 0, 0, 0, p.t⟩ : Pt).arr s.comp) 89 (p.row s.w) Tryz.underlying68 infoInt p3 (by rw [p.row_len hw4]; exact (Nat.min_eq_left hw4).symm) (src m) (by rw [p.row_len hw4]; show 1 + s.w ≤ 6; omega) (row_one _ _)
    have e := p.filled hw0 hw4 hfit s.comp
    unfold Pt.arr at hh
    rw [e] at hh
    rw [hh, p.row_len hw4]
    rfl
  have CR := hid (fun m => crow_any (W := W3.drewN m) (seen (drewN_below W3 m) (Nat.le_refl _) k1) (seen (drewN_below W3 m) (Nat.le_refl _) k2) rfl hnw hLc hL4 hw0 hw4 (by omega))
  -- what is there behind it
  have FIN : Hid (∀ m W4, W4 = (W3.drewN m).setRow (W.heap.size + 1) (p.arr s.comp) → W4.heap[W.heap.size]? = some (.cells (Pt.zero.arr 0) 89 (0, 0)) ∧ W4.heap[W.heap.size + 1]? = some (.cells (p.arr s.comp) 89 (0, 0)) ∧ Below W.heap.size W W4) := by
    intro m W4 e
    subst e
    refine ⟨?_, ?_, ?_⟩
    · rw [setRow_other _ _ _ _ (by omega)]; exact r3
    · exact setRow_heap (W3.drewN m) (W.heap.size + 1) _ _ 89 _ p3
    · exact (b3.trans ((drewN_below W3 m).mono b3.size)).trans ⟨rfl, rfl, rfl, by simp [World.setRow], fun k hk => setRow_other _ _ _ _ (by omega)⟩
  have HW3 := hid hW3
  clear hD hH h hp hW3 p3 r3 b3 g3 k1 k2 src hg hfl hfit c1 c2 hBg
  generalize n * s.w = o at *
  generalize s.comp = cm at *
  generalize s.w = sw at *
  go_enter Tryz.func124, Tryz.ntmps124
  go_wp2_with fail
  rw [← HW3.out]
  go_region_held3 (fun _ => True) (exact trivial)
    ((go_at_call 157; refine (CR.out 1).mono ?_; rintro e w8 ⟨rfl, m, rfl⟩; rw [World.drewN_drewN]))
  obtain ⟨W4, hW4⟩ : ∃ W4, W4 = (W3.drewN (1 + m)).setRow (W.heap.size + 1) (p.arr cm) := ⟨_, rfl⟩
  rw [← hW4]
  obtain ⟨r4, p4, b4⟩ := FIN.out _ _ hW4
  have R4 := hid r4
  have B4 := hid b4
  obtain ⟨d0, d1, d2, d3, d4, d5, -, -, -, -, -, -⟩ := lies p4
  obtain ⟨x0, x1, x2, x3, x4, x5, f0, f1, f2, f3, f4, f5⟩ := lies r4
  clear LK CP CR FIN HW3 hW4 r4 p4 b4 c3 hrl hrn hrn2
  go_wp2_with fail
  have PB := put6_blk R4.out rfl cm p
  have PS := put6_st W4 W.heap.size cm p
  unfold put6 at PB PS
  obtain ⟨d0, d1, d2, d3, d4, d5, -, -, -, -, -, -⟩ := lies PB
  have BF := B4.out.trans (PS.below (B := W.heap.size) (fun k hk => by omega) B4.out.size)
  generalize (((((W4.setCell ⟨W.heap.size, 0, none⟩ (.int .i64 cm)).setCell ⟨W.heap.size, 1, none⟩ (.int .i64 p.a)).setCell ⟨W.heap.size, 2, none⟩ (.int .i64 p.b)).setCell ⟨W.heap.size, 3, none⟩ (.int .i64 p.c)).setCell ⟨W.heap.size, 4, none⟩ (.int .i64 p.d)).setCell ⟨W.heap.size, 5, none⟩ (.int .i64 p.t) = W5 at *
  exact bodyPost_ret (v := .tuple #[.agg #[.int .i64 cm, .int .i64 p.a, .int .i64 p.b, .int .i64 p.c, .int .i64 p.d, .int .i64 p.t], .nilIface]) (by simp [results, Tryz.results124, go_sem, d0, d1, d2, d3, d4, d5]) rfl ⟨rfl, BF⟩
end Go.Proofs.YthadfdbkkmmgoaaGreatDoor.Co
namespace Go.Proofs.YthadfdbkkmmgoaaGreatDoor.Co
open Go.RowKit Go.Shelf Go.Maps
theorem check_bad (Ad : Nat → Addr) {B : Nat} {W : World} {rb mb : Nat} {sv : Value} {s : CS} (h : Cl B W rb mb sv s) (hE : Env3 W Ad) (cm : Int) (p : Pt) (hc : cm ≠ s.comp ∨ p.fitB s.w = false) :
    Calls Tryz.prog 202 #[.pointer (some ⟨rb, 0, none⟩), p.val cm] W fun e W' => ∃ t q, e = .returned (.iface t q) ∧ Err Ad W' (.iface t q) 1 1 ∧ Below W.heap.size W W' := by
  by_cases e : cm = s.comp
  · subst e
    exact check_vals Ad h hE p (hc.elim (fun h => absurd rfl h) id)
  · exact check_comp Ad h hE cm p e
set_option maxHeartbeats 800000 in
set_option maxRecDepth 100000 in
theorem push_nil (Ad : Nat → Addr) (W : World) (hE : Env3 W Ad) (cm : Int) (p : Pt) :
    Calls Tryz.prog 189 #[.pointer none, p.val cm] W fun e W' => ∃ t q, e = .returned (.tuple #[.int .i64 0, .iface t q]) ∧ Err Ad W' (.iface t q) 2 1 ∧ Below W.heap.size W W' := by
  have BA : Hid (Below W.heap.size W (W.alloc (.cells (p.arr cm) 89))) := bAl _ _
  have e2 := hE.c2
  have hl := World.block_lt_of_cell? W _ e2
  have hn := World.new_ne W _ e2
  have AC := hid (fun s => at_err Ad s _ 2 0 (W.alloc (.cells (p.arr cm) 89)) (err_leaf Ad _ 2 (by decide)))
  clear hE
  unfold Pt.val
  unfold Pt.arr at AC
  go_enter Tryz.func189, Tryz.ntmps189
  go_wp2_with fail
  refine (AC.out _).mono ?_
  rintro e w1 ⟨t, q, rfl, hv, hb⟩
  have HV := hid hv
  have HB := hid (BA.out.trans (hb.mono BA.out.size))
  clear hv hb e2 hl hn AC
  go_wp2_with fail
  go_ret2
  exact ⟨t, q, rfl, HV.out, HB.out⟩
set_option maxHeartbeats 800000 in
set_option maxRecDepth 100000 in
theorem push_bad (Ad : Nat → Addr) {B : Nat} {W : World} {rb mb : Nat} {sv : Value} {s : CS} (h : Cl B W rb mb sv s) (hE : Env3 W Ad) (cm : Int) (p : Pt) (hc : cm ≠ s.comp ∨ p.fitB s.w = false) :
    Calls Tryz.prog 189 #[.pointer (some ⟨rb, 0, none⟩), p.val cm] W fun e W' => ∃ t q, e = .returned (.tuple #[.int .i64 0, .iface t q]) ∧ Err Ad W' (.iface t q) 1 2 ∧ Below W.heap.size W W' := by
  have BA : Hid (Below W.heap.size W (W.alloc (.cells (p.arr cm) 89))) := bAl _ _
  have CK := hid (check_bad Ad (h.later BA.out) (hE.later BA.out) cm p hc)
  have AC := hid (fun s v w h => at_err Ad s v 1 1 w h)
  clear hE h hc
  unfold Pt.val at CK ⊢
  unfold Pt.arr at CK BA
  go_enter Tryz.func189, Tryz.ntmps189
  go_wp2_with fail
  refine CK.out.mono ?_
  rintro e w1 ⟨t, q, rfl, hv, hb⟩
  have HV := hid hv
  have HB := hid (BA.out.trans (hb.mono BA.out.size))
  clear hv hb CK
  go_wp2_with fail
  refine (AC.out _ _ _ HV.out).mono ?_
  rintro e w2 ⟨t2, q2, rfl, hv2, hb2⟩
  have HV2 := hid hv2
  have HB2 := hid (HB.out.trans (hb2.mono HB.out.size))
  clear hv2 hb2 AC
  go_wp2_with fail
  go_ret2
  exact ⟨t2, q2, rfl, HV2.out, HB2.out⟩
theorem row_src {W : World} {b : Nat} {cm : Int} {p : Pt} {e : TypeId} (h : W.heap[b]? = some (.cells (p.arr cm) e (0, 0))) (w : Nat) : ∀ (j : Nat) (u : Value), (p.row w)[j]? = some u → W.cell? ((⟨b, 1, none⟩ : Addr).add j) = some u := by
  intro j u hu
  rw [add_at2]
  refine cell_blk h ?_
  unfold Pt.row at hu
  rw [List.getElem?_map, List.getElem?_take] at hu
  split at hu
  · rw [show 1 + j = j + 1 by omega]
    match j, hu with
    | 0, hu => simpa [Pt.cs, Pt.arr, vI] using hu
    | 1, hu => simpa [Pt.cs, Pt.arr, vI] using hu
    | 2, hu => simpa [Pt.cs, Pt.arr, vI] using hu
    | 3, hu => simpa [Pt.cs, Pt.arr, vI] using hu
    | j + 4, hu => simp [Pt.cs] at hu
  · simp at hu
theorem infoInt3 : (Tryz.prog.info? 3).map (fun i => (i.zero, i.size, i.bytes)) = some (some (.int .i64 0), 1, 8) := by kernel_rfl
/-- What an append onto the cells leaves. -/
structure Grew (B : Nat) (sv : Value) (n : Nat) (l : List Value) (wc : World) (sv' : Value) (w2 : World) : Prop where
  own : w2.ownsRow B 3 1 sv' n l
  st : St (fun x => sv.ownBlock = some x) wc w2
  at' : sv'.ownBlock = sv.ownBlock ∨ ∃ x, sv'.ownBlock = some x ∧ wc.heap.size ≤ x
theorem step_cells {ops : Array Oper} {o : Oper} {a : Act} {K : Act → World → Prop} {Q : Exit → Act → World → Prop} {E : Prop} (hgd : o.guard = none) (s x : Operand)
    (ho : o.op = .call { callee := .builtin .append, args := #[s, x], argTypes := #[68, 68] }) {B b : Nat} {wc : World} {sv : Value} {n m c : Nat} {l news : List Value} (hown : wc.ownsRow B 3 1 sv n l) (hB : B ≤ wc.heap.size)
    (hl : news.length = m) (hm : 0 < m) (hsm : n + m ≤ 5000) (hsrc : ∀ (j : Nat) u, news[j]? = some u → wc.cell? ((⟨b, 1, none⟩ : Addr).add j) = some u) (hone : ∀ u ∈ news, u.oneCell' = true)
    {rb : Nat} {cs : Array Value} (hbox : wc.heap[rb]? = some (.cells cs 274 (0, 0))) (hcs : cs[2]? = some sv) (hne : sv.ownBlock ≠ some rb)
    (hs : a.eval s = sv) (hx : a.eval x = .slice (some ⟨b, 1, none⟩) m c)
    (h : ∀ g' cap w2, Hid (Grew B sv (n + m) (l ++ news) wc (.slice (some ⟨g', 0, none⟩) (n + m) cap) w2) → w2.cell? ⟨rb, 2, none⟩ = some sv → w2.frozen? ⟨rb, 2, none⟩ = false → K (a.put o.dst (.slice (some ⟨g', 0, none⟩) (n + m) cap)) w2) :
    if Region.wanted o (yielded ops a.tmps) = true then Oper.wp Tryz.prog o a wc.drew K Q else E := by
  obtain ⟨i0, hi, hz0, hz1, hz2⟩ := info_parts infoInt3
  refine step_append_lies _ hgd s x 68 ho B 3 i0 (.int .i64 0) 1 8 Tryz.underlying68 hi hz0 hz1 hz2 rfl (by decide) sv n l hs (show wc.drew.ownsRow _ _ _ _ _ _ from hown) ⟨b, 1, none⟩ m c news hx (by omega) hsrc hone hm (by unfold maxLen; omega) (by omega) hB wc.heap.size rfl ?_
  intro g' cap w2 ow hg hat hlt
  have st' := St.of_grown (S := fun x => sv.ownBlock = some x) hg fun k e => e
  have st : St (fun x => sv.ownBlock = some x) wc w2 := ⟨st'.os, st'.tape, st'.output, st'.size, st'.block⟩
  have hbx := st.at hbox hne
  refine h g' cap w2 ⟨ow, st, ?_⟩ (cell_blk hbx hcs) (blk_free hbx 2)
  · rcases hat with h1 | h1
    · exact .inl (by rw [h1]; rfl)
    · exact .inr ⟨g', rfl, by omega⟩
/-- What Push leaves. -/
theorem Cl.pushed {B : Nat} {w1 w2 w4 : World} {rb mb : Nat} {sv sv' : Value} {s : CS} (h : Cl B w1 rb mb sv s) (p : Pt) (hf : p.fitB s.w = true) (ht : I64 p.t) (hsm : s.rows.length < 1000)
    (hg : Grew B sv (s.rows.length * s.w + s.w) (flat s.w s.rows ++ p.row s.w) w1 sv' w2) (hs : St (fun x => x = mb) (w2.setCell ⟨rb, 2, none⟩ sv') w4)
    (D : DataW Unit) (hD : w1.ownsMap Tryz.prog 3 (plainElem Tryz.prog 3) mb s.rows.length D) (hH : Holds D s.rows) (hD4 : w4.ownsMap Tryz.prog 3 (plainElem Tryz.prog 3) mb (s.rows.length + 1) (D.put (.int .i64 (s.rows.length : Int)) (.lit (.int .i64 p.t)))) :
    Cl B w4 rb mb sv' ⟨s.comp, s.w, s.rows ++ [p]⟩ ∧ St (Ft rb mb sv) w1 w4 := by
  have l1 := (h.lt rb (.inl rfl)).2
  have lm := (h.lt mb (.inr (.inl rfl))).2
  have hnb : ∀ x, sv'.ownBlock = some x → x ≠ rb ∧ x ≠ mb := fun x hx => by
    rcases hg.at' with h1 | ⟨y, h1, h2⟩
    · exact h.ne_f x (h1 ▸ hx)
    · rw [h1] at hx; simp at hx; omega
  have b2 := hg.st.at h.box (fun e => (h.ne_f rb e).1 rfl)
  have b3 := heap_setCell_same w2 rb 2 _ 274 sv' b2
  have b4 := hs.at b3 h.ne_rm
  refine ⟨⟨b4, ?_, ⟨_, ?_, hH.snoc (hD.tidy keyed3) p (I64_mid (by omega) (by omega))⟩, ⟨h.ok.w0, h.ok.w4, ?_⟩, ?_, h.low⟩, ?_⟩
  · have e : (s.rows ++ [p]).length * s.w = s.rows.length * s.w + s.w := by rw [List.length_append, List.length_singleton, Nat.succ_mul]
    show World.ownsRow _ _ _ _ _ ((s.rows ++ [p]).length * s.w) (flat s.w (s.rows ++ [p]))
    rw [e, flat_snoc]
    refine own_later hg.own fun x cur hx hb => ?_
    exact hs.at ((Below.heap_setCell _ _ _ _ (hnb x hx).1).trans hb) (hnb x hx).2
  · show World.ownsMap _ _ _ _ _ (s.rows ++ [p]).length _
    rw [List.length_append]; exact hD4
  · intro q hq
    rcases List.mem_append.1 hq with hq | hq
    · exact h.ok.fit q hq
    · simp at hq; subst hq; exact ⟨hf, ht⟩
  · show (s.rows ++ [p]).length ≤ 1000
    rw [List.length_append]; simp; omega
  · have s1 : St (Ft rb mb sv) w1 w2 := ⟨hg.st.os, hg.st.tape, hg.st.output, hg.st.size, fun x hx hn => hg.st.block x hx fun e => hn (.inr (.inr e))⟩
    exact (s1.trans (St.setCell (S := Ft rb mb sv) (p := ⟨rb, 2, none⟩) sv' (.inl rfl)) fun _ _ q => q).trans hs fun x _ q => .inr (.inl q)
set_option maxHeartbeats 1600000 in
set_option maxRecDepth 100000 in
theorem push_ok {B : Nat} {W : World} {rb mb : Nat} {sv : Value} {s : CS} (h : Cl B W rb mb sv s) (p : Pt) (hf : p.fitB s.w = true) (ht : I64 p.t) (hsm : s.rows.length < 1000) :
    Calls Tryz.prog 189 #[.pointer (some ⟨rb, 0, none⟩), p.val s.comp] W fun e W' => e = .returned (.tuple #[.int .i64 (s.rows.length : Int), .nilIface]) ∧ ∃ sv', Cl B W' rb mb sv' ⟨s.comp, s.w, s.rows ++ [p]⟩ ∧ (sv'.ownBlock = sv.ownBlock ∨ ∃ x, sv'.ownBlock = some x ∧ W.heap.size ≤ x) ∧ St (Ft rb mb sv) W W' := by
  have BA : Hid (Below W.heap.size W (W.alloc (.cells (p.arr s.comp) 89))) := bAl _ _
  have CK := hid (check_ok (h.later BA.out) p hf)
  have HC := hid (h.later BA.out)
  have HF := hid hf
  have HT := hid ht
  have HLT := hid (fun k hk => (h.lt k hk).2)
  obtain ⟨sa, sc, rfl⟩ := own_slice h.row
  have hw0 := h.ok.w0
  have hw4 := h.ok.w4
  have hwi : (s.w : Int) ≤ 4 := by omega
  have hnw : s.rows.length * s.w ≤ 4000 := by have := Nat.mul_le_mul (show s.rows.length ≤ 1000 by omega) hw4; omega
  clear h hf ht
  unfold Pt.val at CK ⊢
  have HW : Hid ((W.alloc (.cells (p.arr s.comp) 89)).heap[W.heap.size]? = some (.cells (p.arr s.comp) 89 (0, 0))) := heap_alloc_new W _
  have HWs : (W.alloc (.cells (p.arr s.comp) 89)).heap.size = W.heap.size + 1 := by simp
  unfold Pt.arr at CK BA HC HW HWs
  go_enter Tryz.func189, Tryz.ntmps189
  go_wp2_with fail
  refine CK.out.mono ?_
  rintro e w1 ⟨rfl, hb⟩
  have C1 := hid (HC.out.later hb)
  have B1 := hid (BA.out.trans (hb.mono BA.out.size))
  have P1 := hid (blk_seen hb (Nat.le_refl _) HW.out)
  have hlt1 : W.heap.size < w1.heap.size := by have := hb.size; omega
  have LN := hid (len_any C1.out)
  clear hb CK HC HW HWs
  go_wp2_with fail
  refine LN.out.mono ?_
  rintro e w2 ⟨rfl, rfl⟩
  have c1 := C1.out.c1
  have c2 := C1.out.c2
  have hne : (Value.slice sa (s.rows.length * s.w) sc).ownBlock ≠ some rb := fun e => (C1.out.ne_f rb e).1 rfl
  have SRC := hid (row_src P1.out s.w)
  have RL := hid (p.row_len hw4)
  have hBw : B ≤ w2.heap.size := C1.out.base
  have hp0 : 0 < s.w := hw0
  have h5 : s.rows.length * s.w + s.w ≤ 5000 := by omega
  clear LN
  go_wp2_with fail
  go_region_law (refine step_cells rfl _ _ rfl C1.out.row hBw RL.out hp0 h5 SRC.out (row_one _ _) C1.out.box rfl hne rfl rfl ?_; intro g' cap w3 hgr hx3 hf3)
  all_goals
    obtain ⟨w4, hw4'⟩ : ∃ w4, w4 = w3.setCell ⟨rb, 2, none⟩ (.slice (some ⟨g', 0, none⟩) (s.rows.length * s.w + s.w) cap) := ⟨_, rfl⟩
    rw [← hw4']
    have HW4 := hid hw4'
    obtain ⟨D, hD, hH⟩ := C1.out.map
    have nsf : ∀ k, (Value.slice sa (s.rows.length * s.w) sc).ownBlock = some k → k < W.heap.size := fun k hk => HLT.out k (.inr (.inr hk))
    have D3 : w3.ownsMap Tryz.prog 3 (plainElem Tryz.prog 3) mb s.rows.length D := by
      have hlt := hD.lt
      obtain ⟨es, cl, hb, q⟩ := hD
      exact ⟨es, cl, (hgr.out.st.block mb hlt (fun e => (C1.out.ne_f mb e).2 rfl)).trans hb, q⟩
    have D4 : w4.ownsMap Tryz.prog 3 (plainElem Tryz.prog 3) mb s.rows.length D := by rw [hw4']; exact D3.setCell (fun e => C1.out.ne_rm e.symm) _
    obtain ⟨w6, hmu, D6, ht6⟩ := D4.drew.store keyed3 Tryz.underlying272 (by unfold maxLen; omega) (key_int (s.rows.length : Int) (I64_mid (by omega) (by omega))) (plainElem_int Tryz.underlying3 HT.out)
    have p3 := hgr.out.st.at P1.out (fun e => by have := nsf _ e; omega)
    have hrbW : rb < W.heap.size := HLT.out rb (.inl rfl)
    have hmbW : mb < W.heap.size := HLT.out mb (.inr (.inl rfl))
    have p4 : w4.heap[W.heap.size]? = some (.cells #[.int .i64 s.comp, .int .i64 p.a, .int .i64 p.b, .int .i64 p.c, .int .i64 p.d, .int .i64 p.t] 89 (0, 0)) := by
      rw [hw4', Below.heap_setCell _ _ _ _ (show W.heap.size ≠ rb by omega)]; exact p3
    have x4 := heap_setCell_same w3 rb 2 _ 274 (.slice (some ⟨g', 0, none⟩) (s.rows.length * s.w + s.w) cap) (hgr.out.st.at C1.out.box hne)
    rw [← hw4'] at x4
    have g6 : ∀ k, k < w4.heap.size → k ≠ mb → w6.heap[k]? = w4.heap[k]? := fun k hk hne => ht6.grown.block k (by simpa using hk) (by simpa using hne)
    have p6 := (g6 _ (Array.getElem?_eq_some_iff.1 p4).1 (by omega)).trans p4
    have x6 := (g6 _ (Array.getElem?_eq_some_iff.1 x4).1 C1.out.ne_rm).trans x4
    have K4 : Hid (w4.drew.cell? ⟨rb, 3, none⟩ = some (.map (some mb)) ∧ w4.drew.cell? ⟨W.heap.size, 5, none⟩ = some (.int .i64 p.t)) := ⟨cell_blk (W := w4) x4 rfl, cell_blk (W := w4) p4 rfl⟩
    have K6 : Hid (w6.cell? ⟨rb, 3, none⟩ = some (.map (some mb)) ∧ w6.cell? ⟨W.heap.size, 5, none⟩ = some (.int .i64 p.t)) := ⟨cell_blk x6 rfl, cell_blk p6 rfl⟩
    have s46 : St (fun x => x = mb) w4 w6 := by
      have s' := St.of_grown (S := fun x => x = mb) ht6.grown fun k e => by simpa using e.symm
      exact ⟨s'.os, s'.tape, s'.output, s'.size, s'.block⟩
    have FN := C1.out.pushed p HF.out HT.out hsm hgr.out (w4 := w6) (by rw [← hw4']; exact s46) D hD hH D6
    have HFN := hid FN
    have HAT := hid hgr.out.at'
    clear FN s46 g6 p6 x6 x4 p4 p3 D6 D4 D3 ht6 hD hH hw4' hgr hx3 hf3 c1 c2 nsf
    go_wp2_with fail
    go_region_held3 (fun W' => W'.cell? ⟨rb, 3, none⟩ = some (.map (some mb)) ∧ W'.cell? ⟨W.heap.size, 5, none⟩ = some (.int .i64 p.t)) (first | exact K4.out | exact K6.out) (fail)
    clear hmu K4 K6
    go_wp2_with fail
    go_ret2
    refine ⟨rfl, _, HFN.out.1, ?_, ?_⟩
    · rcases HAT.out with h | ⟨x, h, h'⟩
      · exact .inl h
      · exact .inr ⟨x, h, by omega⟩
    · exact (St.of_below B1.out).trans HFN.out.2 fun _ _ q => q
end Go.Proofs.YthadfdbkkmmgoaaGreatDoor.Co
namespace Go.Proofs.YthadfdbkkmmgoaaGreatDoor.Co
open Go.RowKit Go.Shelf Go.Maps
theorem splice_take {w : Nat} (hw : w ≤ 4) {cur : List Value} {l : List Pt} (hc : cur.take (l.length * w) = flat w l) (hL : l.length * w ≤ cur.length) {n : Nat} (hn : n < l.length) (p : Pt) :
    (cur.take (n * w) ++ p.row w ++ cur.drop (n * w + w)).take (l.length * w) = flat w (l.set n p) := by
  have hnw : n * w + w ≤ l.length * w := by rw [← Nat.succ_mul]; exact Nat.mul_le_mul_right _ hn
  rw [← flat_splice hw hn, ← hc, List.take_take, Nat.min_eq_left (by omega), List.take_append, List.take_of_length_le (by simp [p.row_len hw]; omega), List.drop_take]
  congr 2
  simp [p.row_len hw]
  omega
theorem set_take {w : Nat} (hw : w ≤ 4) {cur : List Value} {l : List Pt} (hc : cur.take (l.length * w) = flat w l) {n : Nat} {p : Pt} (hn : l[n]? = some p) {j : Nat} (hj : j < w) (x f : Int) :
    (cur.set (n * w + j) (vI x)).take (l.length * w) = flat w (l.set n (p.put j x f)) := by
  rw [← flat_set hw hn hj x f, ← hc, List.take_set]
set_option maxHeartbeats 800000 in
set_option maxRecDepth 100000 in
theorem take_err (Ad : Nat → Addr) (W : World) (x : Option Addr) (i : Int) (k : Nat)
    (RC : Calls Tryz.prog 124 #[.pointer x, .int .i64 i] (W.alloc (.cells #[.int .i64 0, .int .i64 0, .int .i64 0, .int .i64 0, .int .i64 0, .int .i64 0] 89)) fun e W' => ∃ t q, e = .returned (.tuple #[.agg #[.int .i64 0, .int .i64 0, .int .i64 0, .int .i64 0, .int .i64 0, .int .i64 0], .iface t q]) ∧ Err Ad W' (.iface t q) k 1 ∧ Below (W.alloc (.cells #[.int .i64 0, .int .i64 0, .int .i64 0, .int .i64 0, .int .i64 0, .int .i64 0] 89)).heap.size (W.alloc (.cells #[.int .i64 0, .int .i64 0, .int .i64 0, .int .i64 0, .int .i64 0, .int .i64 0] 89)) W') :
    Calls Tryz.prog 191 #[.pointer x, .int .i64 i] W fun e W' => ∃ t q, e = .returned (.tuple #[.agg #[.int .i64 0, .int .i64 0, .int .i64 0, .int .i64 0, .int .i64 0, .int .i64 0], .iface t q]) ∧ Err Ad W' (.iface t q) k 2 ∧ Below W.heap.size W W' := by
  have BA : Hid (Below W.heap.size W (W.alloc (.cells #[.int .i64 0, .int .i64 0, .int .i64 0, .int .i64 0, .int .i64 0, .int .i64 0] 89))) := bAl _ _
  have HC := hid RC
  clear RC
  have AC := hid (fun s v w h => at_err Ad s v k 1 w h)
  go_enter Tryz.func191, Tryz.ntmps191
  go_wp2_with fail
  refine HC.out.mono ?_
  rintro e w1 ⟨t, q, rfl, hv, hb⟩
  have HB := hid (BA.out.trans (hb.mono BA.out.size))
  have HH : Hid (w1.heap[W.heap.size]? = some (.cells (Pt.zero.arr 0) 89 (0, 0))) := blk_seen hb (Nat.le_refl _) (heap_alloc_new W (.cells #[.int .i64 0, .int .i64 0, .int .i64 0, .int .i64 0, .int .i64 0, .int .i64 0] 89))
  have HV := hid (hv.later (bAl w1 (.cells #[.int .i64 0, .int .i64 0, .int .i64 0, .int .i64 0, .int .i64 0, .int .i64 0] 89)))
  clear hv hb HC
  go_wp2_with fail
  refine (AC.out _ _ _ HV.out).mono ?_
  rintro e w2 ⟨t2, q2, rfl, hv2, hb2⟩
  have bb := (bAl w1 (.cells #[.int .i64 0, .int .i64 0, .int .i64 0, .int .i64 0, .int .i64 0, .int .i64 0] 89)).trans (hb2.mono (bAl w1 (.cells #[.int .i64 0, .int .i64 0, .int .i64 0, .int .i64 0, .int .i64 0, .int .i64 0] 89)).size)
  have HV2 := hid hv2
  have HB2 := hid (HB.out.trans (bb.mono HB.out.size))
  have HH2 := hid (blk_seen bb (Nat.le_refl _) HH.out)
  obtain ⟨d0, d1, d2, d3, d4, d5, f0, f1, f2, f3, f4, f5⟩ := lies HH2.out
  unfold Pt.zero at d1 d2 d3 d4 d5
  clear hv2 hb2 bb AC HV HH
  go_wp2_with fail
  have PS := put6_same HH2.out
  unfold put6 Pt.zero at PS
  rw [PS]
  exact bodyPost_ret (v := .tuple #[.agg #[.int .i64 0, .int .i64 0, .int .i64 0, .int .i64 0, .int .i64 0, .int .i64 0], .iface t2 q2]) (by simp [results, Tryz.results191, go_sem, d0, d1, d2, d3, d4, d5]) rfl ⟨t2, q2, rfl, HV2.out, HB2.out⟩
theorem take_nil (Ad : Nat → Addr) (W : World) (hE : Env3 W Ad) (i : Int) :
    Calls Tryz.prog 191 #[.pointer none, .int .i64 i] W fun e W' => ∃ t q, e = .returned (.tuple #[.agg #[.int .i64 0, .int .i64 0, .int .i64 0, .int .i64 0, .int .i64 0, .int .i64 0], .iface t q]) ∧ Err Ad W' (.iface t q) 2 2 ∧ Below W.heap.size W W' :=
  take_err Ad W none i 2 (row_nil Ad _ (hE.later (bAl _ _)) i)
theorem take_none (Ad : Nat → Addr) {B : Nat} {W : World} {rb mb : Nat} {sv : Value} {s : CS} (h : Cl B W rb mb sv s) (hE : Env3 W Ad) (i : Int) (hi : I64 i) (hr : rowAt s.rows i = none) :
    Calls Tryz.prog 191 #[.pointer (some ⟨rb, 0, none⟩), .int .i64 i] W fun e W' => ∃ t q, e = .returned (.tuple #[.agg #[.int .i64 0, .int .i64 0, .int .i64 0, .int .i64 0, .int .i64 0, .int .i64 0], .iface t q]) ∧ Err Ad W' (.iface t q) 7 2 ∧ Below W.heap.size W W' :=
  take_err Ad W _ i 7 (row_none Ad (h.later (bAl _ _)) (hE.later (bAl _ _)) i hi hr)
end Go.Proofs.YthadfdbkkmmgoaaGreatDoor.Co
namespace Go.Proofs.YthadfdbkkmmgoaaGreatDoor.Co
open Go.RowKit Go.Shelf Go.Maps
theorem setRow_st (W : World) (g : Nat) (cs : Array Value) : St (fun k => k = g) W (W.setRow g cs) :=
  ⟨rfl, rfl, rfl, by simp [World.setRow], fun _ _ hn => setRow_other _ _ _ _ hn⟩
theorem drewN_st (S : Nat → Prop) (W : World) (m : Nat) : St S W (W.drewN m) := St.of_below (drewN_below W m)
theorem map_st {W W' : World} {mb : Nat} (h : W.drew.mapTurned W' mb) : St (fun k => k = mb) W W' := by
  have s' := St.of_grown (S := fun x => x = mb) h.grown fun k e => by simpa using e.symm
  exact ⟨s'.os, s'.tape, s'.output, s'.size, s'.block⟩
theorem map_st' {W W' : World} {mb : Nat} (h : W.mapTurned W' mb) : St (fun k => k = mb) W W' :=
  St.of_grown (S := fun x => x = mb) h.grown fun k e => by simpa using e.symm
theorem St.map {S : Nat → Prop} {W W' : World} (hs : St S W W') {mb n : Nat} {D : DataW Unit} (h : W.ownsMap Tryz.prog 3 (plainElem Tryz.prog 3) mb n D) (hn : ¬ S mb) : W'.ownsMap Tryz.prog 3 (plainElem Tryz.prog 3) mb n D := by
  have hlt := h.lt
  obtain ⟨es, cl, hb, q⟩ := h
  exact ⟨es, cl, (hs.block mb hlt hn).trans hb, q⟩
theorem wrap_mid {n : Int} (h0 : -1000000 ≤ n) (h1 : n ≤ 1000000) : IntKind.i64.wrap n = n := by
  rw [IntKind.wrap_i64]; omega
/-- The rows behind Take. -/
def CS.taken (s : CS) (n : Nat) (pl : Pt) : CS := ⟨s.comp, s.w, (s.rows.set n pl).dropLast⟩
/-- What Take leaves. -/
theorem Cl.took {B : Nat} {W W' : World} {rb mb g cap : Nat} {cur : Array Value} {s : CS} (h : Cl B W rb mb (.slice (some ⟨g, 0, none⟩) (s.rows.length * s.w) cap) s) (n : Nat) (hn : n < s.rows.length) (pl : Pt) (hpl : s.rows[s.rows.length - 1]? = some pl)
    (hcl : s.rows.length * s.w ≤ cap) (hcm : cap ≤ maxLen) (hcs : cur.size = cap) (hfl : cur.toList.take (s.rows.length * s.w) = flat s.w s.rows) (hBg : B ≤ g)
    (hbox : W'.heap[rb]? = some (.cells #[.int .i64 s.comp, .int .i64 (s.w : Int), .slice (some ⟨g, 0, none⟩) ((s.rows.length - 1) * s.w) cap, .map (some mb)] 274 (0, 0)))
    (hg : W'.heap[g]? = some (.cells (cur.toList.take (n * s.w) ++ pl.row s.w ++ cur.toList.drop (n * s.w + (pl.row s.w).length)).toArray 3 (0, 0)))
    (D : DataW Unit) (hD : W'.ownsMap Tryz.prog 3 (plainElem Tryz.prog 3) mb (s.rows.length + 1) D) (hH : Holds D (s.rows.set n pl).dropLast) :
    Cl B W' rb mb (.slice (some ⟨g, 0, none⟩) ((s.rows.length - 1) * s.w) cap) (s.taken n pl) := by
  have hw4 := h.ok.w4
  have hnw : n * s.w + s.w ≤ s.rows.length * s.w := by rw [← Nat.succ_mul]; exact Nat.mul_le_mul_right _ hn
  have hl1 : (s.rows.length - 1) * s.w ≤ s.rows.length * s.w := Nat.mul_le_mul_right _ (by omega)
  have hdl : ((s.rows.set n pl).dropLast).length = s.rows.length - 1 := by simp
  have hrl := pl.row_len hw4
  refine ⟨hbox, ?_, ⟨D, own_size hD hH.2, hH⟩, ⟨h.ok.w0, hw4, ?_⟩, ?_, h.low⟩
  · show World.ownsRow _ _ _ _ _ (((s.rows.set n pl).dropLast).length * s.w) (flat s.w (s.rows.set n pl).dropLast)
    rw [hdl]
    refine ⟨by rw [flat_len hw4, hdl]; omega, .inr ⟨g, cap, _, rfl, hBg, hg, by omega, hcm, ?_, ?_⟩⟩
    · simp [hrl]; omega
    · rw [Nat.mul_one]
      have e := splice_take hw4 (cur := cur.toList) hfl (by simp; omega) hn pl
      have e2 := congrArg (List.take ((s.rows.length - 1) * s.w)) e
      rw [List.take_take, Nat.min_eq_left hl1, flat_take hw4 _ _ (by simp)] at e2
      rw [List.toList_toArray, hrl, e2, List.dropLast_eq_take]
      simp
  · intro q hq
    have hq' := List.dropLast_subset _ hq
    rcases List.mem_or_eq_of_mem_set hq' with h1 | h1
    · exact h.ok.fit q h1
    · subst h1; exact h.ok.fit _ (List.mem_of_getElem? hpl)
  · show ((s.rows.set n pl).dropLast).length ≤ 1000
    rw [hdl]; have := h.small; omega
set_option maxHeartbeats 3200000 in
set_option maxRecDepth 100000 in
theorem take_ok {B : Nat} {W : World} {rb mb : Nat} {sv : Value} {s : CS} (h : Cl B W rb mb sv s) (n : Nat) (p : Pt) (hp : s.rows[n]? = some p) (pl : Pt) (hpl : s.rows[s.rows.length - 1]? = some pl) :
    Calls Tryz.prog 191 #[.pointer (some ⟨rb, 0, none⟩), .int .i64 (n : Int)] W fun e W' => e = .returned (.tuple #[p.val s.comp, .nilIface]) ∧ ∃ sv', Cl B W' rb mb sv' (s.taken n pl) ∧ sv'.ownBlock = sv.ownBlock ∧ St (Ft rb mb sv) W W' := by
  have hnl : n < s.rows.length := (List.getElem?_eq_some_iff.1 hp).1
  have hsm := h.small
  obtain ⟨g, cap, cur, hsv, hBg, hg, hLc, hcm, hcs, hfl⟩ := h.cells (by omega)
  subst hsv
  have hw0 := h.ok.w0
  have hw4 := h.ok.w4
  have H := hid h
  have HP := hid hp
  have HPL := hid hpl
  have BA : Hid (Below W.heap.size W (W.alloc (.cells #[.int .i64 0, .int .i64 0, .int .i64 0, .int .i64 0, .int .i64 0, .int .i64 0] 89))) := bAl _ _
  have RW := hid (row_some (h.later BA.out) n p hp)
  have hgW : g < W.heap.size := (h.lt g (.inr (.inr rfl))).2
  have hrW : rb < W.heap.size := (h.lt rb (.inl rfl)).2
  have hmW : mb < W.heap.size := (h.lt mb (.inr (.inl rfl))).2
  have HG := hid hg
  have HFL := hid hfl
  obtain ⟨last, hlast⟩ : ∃ last, last = s.rows.length - 1 := ⟨_, rfl⟩
  have hli : ((s.rows.length : Int) - 1) = (last : Int) := by omega
  have HLI := hid hli
  have HLA := hid hlast
  unfold Pt.val at RW ⊢
  clear h hp hpl hg hfl hli hlast
  go_enter Tryz.func191, Tryz.ntmps191
  go_wp2_with fail
  refine RW.out.mono ?_
  rintro e w1 ⟨rfl, hb⟩
  have R1 : Hid (w1.heap[W.heap.size]? = some (.cells (Pt.zero.arr 0) 89 (0, 0))) := blk_seen hb (Nat.le_refl _) (heap_alloc_new W (.cells #[.int .i64 0, .int .i64 0, .int .i64 0, .int .i64 0, .int .i64 0, .int .i64 0] 89))
  have B1 := hid (BA.out.trans (hb.mono BA.out.size))
  have hz1 : W.heap.size < w1.heap.size := by have := hb.size; simp at this; omega
  clear hb RW
  obtain ⟨w2, hw2⟩ : ∃ w2, w2 = w1.alloc (.cells #[.int .i64 s.comp, .int .i64 p.a, .int .i64 p.b, .int .i64 p.c, .int .i64 p.d, .int .i64 p.t] 89) := ⟨_, rfl⟩
  have b12 : Below w1.heap.size w1 w2 := by rw [hw2]; exact bAl _ _
  have B2 := hid (B1.out.trans (b12.mono B1.out.size))
  have R2 := hid (blk_seen b12 (Nat.le_refl _) R1.out)
  have O2 : Hid (w2.heap[w1.heap.size]? = some (.cells (p.arr s.comp) 89 (0, 0))) := by rw [hw2]; exact heap_alloc_new w1 _
  have C2 := hid (H.out.later B2.out)
  have G2 := hid (blk_seen B2.out (Nat.le_refl _) HG.out)
  have LN := hid (len_any C2.out)
  have HW2 := hid hw2
  clear b12 hw2
  go_wp2_with fail
  rw [← HW2.out]
  refine LN.out.mono ?_
  rintro e w3 ⟨rfl, rfl⟩
  have hsl : (s.rows.length : Int) ≤ 1000 := by omega
  clear LN
  have hnw : n * s.w + s.w ≤ s.rows.length * s.w := by rw [← Nat.succ_mul]; exact Nat.mul_le_mul_right _ hnl
  have hlw : last * s.w + s.w ≤ s.rows.length * s.w := by rw [← Nat.succ_mul]; exact Nat.mul_le_mul_right _ (by have := HLA.out; omega)
  have hL4 : s.rows.length * s.w ≤ 4000 := by have := Nat.mul_le_mul hsm hw4; omega
  have hpl' : s.rows[last]? = some pl := by rw [HLA.out]; exact HPL.out
  have CR := hid (fun m k (hk : k ≤ 1000) (hkw : k * s.w + s.w ≤ s.rows.length * s.w) => crow_any (W := w3.drewN m) (seen (drewN_below w3 m) (Nat.le_refl _) C2.out.c1) (seen (drewN_below w3 m) (Nat.le_refl _) C2.out.c2) (n := k) rfl hkw hLc hL4 hw0 hw4 hk)
  obtain ⟨cur', hcur'⟩ : ∃ cur', cur' = (cur.toList.take (n * s.w) ++ pl.row s.w ++ cur.toList.drop (n * s.w + (pl.row s.w).length)).toArray := ⟨_, rfl⟩
  have CP : ∀ m ty, (Builtin.copy_ #[68, 68] ty #[.slice (some ⟨g, n * s.w, none⟩) s.w (cap - n * s.w), .slice (some ⟨g, last * s.w, none⟩) s.w (cap - last * s.w)]).run Tryz.prog (w3.drewN m) = .ok (.int .i64 (s.w : Int)) ((w3.drewN m).setRow g cur') := by
    intro m ty
    rw [hcur']
    have hh := run_copy_row (P := Tryz.prog) (w3.drewN m) 68 68 ty 3 g (n * s.w) s.w (cap - n * s.w) ⟨g, last * s.w, none⟩ s.w (cap - last * s.w) cur 3 (pl.row s.w) Tryz.underlying68 infoInt G2.out (by rw [pl.row_len hw4]; exact (Nat.min_self _).symm) (row_cells (W := w3.drewN m) G2.out HFL.out hw4 hpl') (by rw [pl.row_len hw4]; omega) (row_one _ _)
    rw [hh, pl.row_len hw4]
    rfl
  have HPL' := hid hpl'
  have HCU := hid hcur'
  clear hpl' hcur'
  go_wp2_with fail
  rw [HLI.out]
  refine (CR.out 0 n (by omega) hnw).mono ?_
  rintro e w4 ⟨rfl, m1, rfl⟩
  rw [World.drewN_drewN]
  go_wp2_with fail
  refine (CR.out m1 last (by have := HLA.out; omega) hlw).mono ?_
  rintro e w4 ⟨rfl, m2, rfl⟩
  rw [World.drewN_drewN]
  go_wp2_with fail
  obtain ⟨w4, hw4'⟩ : ∃ w4, w4 = (w3.drewN (m1 + m2)).setRow g cur' := ⟨_, rfl⟩
  rw [← hw4']
  have ngr : g ≠ rb := (C2.out.ne_f g rfl).1
  have ngm : g ≠ mb := (C2.out.ne_f g rfl).2
  have nrm : rb ≠ mb := C2.out.ne_rm
  have s34 : St (fun k => k = g) w3 w4 := by rw [hw4']; exact (drewN_st (fun k => k = g) w3 _).trans (setRow_st _ g _) fun _ _ q => q
  have G4 : Hid (w4.heap[g]? = some (.cells cur' 3 (0, 0))) := by rw [hw4']; exact setRow_heap (w3.drewN (m1 + m2)) g cur _ 3 _ G2.out
  have X4 := hid (s34.at C2.out.box (fun e => ngr e.symm))
  have R4 := hid (s34.at R2.out (by omega))
  have O4 := hid (s34.at O2.out (by omega))
  obtain ⟨D, hD, hH⟩ := C2.out.map
  have hD4 := s34.map hD (fun e => ngm e.symm)
  have hIn : I64 (n : Int) := I64_mid (by omega) (by omega)
  have hIl : I64 (last : Int) := I64_mid (by omega) (by have := HLA.out; omega)
  have hpt : I64 pl.t := (H.out.ok.fit pl (List.mem_of_getElem? HPL.out)).2
  have tl : tickAt s.rows (last : Int) = pl.t := by unfold tickAt; rw [rowAt_nat, HPL'.out]
  have LK4 := look_one (W := w4.drew) hD4 hH (last : Int) hIl
  rw [tl] at LK4
  obtain ⟨w5, hmu, hD5, ht5⟩ := hD4.drew.store keyed3 Tryz.underlying272 (by unfold maxLen; omega) (key_int (n : Int) hIn) (plainElem_int Tryz.underlying3 hpt)
  have hH5 := hH.set (hD.tidy keyed3) hnl pl hIn
  have tl5 : tickAt (s.rows.set n pl) (last : Int) = pl.t := by
    unfold tickAt
    rw [rowAt_set _ _ _ hnl]
    by_cases e : (last : Int) = (n : Int)
    · rw [if_pos e]
    · rw [if_neg e, rowAt_nat, HPL'.out]
  have LK5 := look_one hD5 hH5 (last : Int) hIl
  rw [tl5] at LK5
  have s45 := map_st ht5
  have X5 := hid (s45.at X4.out nrm)
  have G5 := hid (s45.at G4.out ngm)
  have hz2 : w1.heap.size < w3.heap.size := (Array.getElem?_eq_some_iff.1 O2.out).1
  have R5 := hid (s45.at R4.out (by omega))
  have O5 := hid (s45.at O4.out (by omega))
  have S35 : Hid (St (fun k => k = g ∨ k = mb) w3 w5) := (St.trans (S := fun k => k = g ∨ k = mb) ⟨s34.os, s34.tape, s34.output, s34.size, fun k hk hn => s34.block k hk fun e => hn (.inl e)⟩ s45 fun _ _ q => .inr q)
  have HD5 := hid hD5
  have HH5 := hid hH5
  have K4 : Hid (w4.drew.cell? ⟨rb, 3, none⟩ = some (.map (some mb)) ∧ (Instr.lookup 272 (.map (some mb)) (.int .i64 (last : Int)) false).run Tryz.prog w4.drew = .ok (.int .i64 pl.t) w4.drew) := ⟨cell_blk (W := w4) X4.out rfl, LK4⟩
  have K5 : Hid (w5.cell? ⟨rb, 3, none⟩ = some (.map (some mb)) ∧ (Instr.lookup 272 (.map (some mb)) (.int .i64 (last : Int)) false).run Tryz.prog w5 = .ok (.int .i64 pl.t) w5) := ⟨cell_blk X5.out rfl, LK5⟩
  clear hD hH hD4 LK4 LK5 hD5 hH5 ht5 s34 s45 tl tl5 hw4' CR CP X4 R4 O4 G4
  go_region_held3 (fun W' => W'.cell? ⟨rb, 3, none⟩ = some (.map (some mb)) ∧ (Instr.lookup 272 (.map (some mb)) (.int .i64 (last : Int)) false).run Tryz.prog W' = .ok (.int .i64 pl.t) W') (first | exact K4.out | exact K5.out) (fail)
  clear hmu K4 K5
  obtain ⟨o2, ho2⟩ : ∃ o2, last * s.w = o2 := ⟨_, rfl⟩
  have e1 : (last : Int) * (s.w : Int) = (o2 : Int) := by rw [← ho2]; simp
  have q1 := cell_blk X5.out (j := 1) rfl
  have q2 := cell_blk X5.out (j := 2) rfl
  have f2 := blk_free X5.out 2
  have bo : (o2 : Int) ≤ (cap : Int) := by omega
  have bo4 : (o2 : Int) ≤ 4000 := by omega
  have wr : IntKind.i64.wrap (o2 : Int) = (o2 : Int) := wrap_mid (by omega) (by omega)
  have HO2 := hid ho2
  clear ho2
  go_wp2_with fail
  go_region_law (fail)
  all_goals
    obtain ⟨w6, hw6⟩ : ∃ w6, w6 = (w5.setCell ⟨rb, 2, none⟩ (.slice (some ⟨g, 0, none⟩) o2 cap)).drew := ⟨_, rfl⟩
    rw [← hw6]
    have s56 : St (fun k => k = rb) w5 w6 := by
      rw [hw6]
      have s' := St.setCell (S := fun k => k = rb) (a := w5) (p := ⟨rb, 2, none⟩) (.slice (some ⟨g, 0, none⟩) o2 cap) rfl
      exact ⟨s'.os, s'.tape, s'.output, s'.size, s'.block⟩
    have X6 : Hid (w6.heap[rb]? = some (.cells #[.int .i64 s.comp, .int .i64 (s.w : Int), .slice (some ⟨g, 0, none⟩) o2 cap, .map (some mb)] 274 (0, 0))) := by rw [hw6]; exact heap_setCell_same w5 rb 2 _ 274 _ X5.out
    have G6 := hid (s56.at G5.out ngr)
    have R6 := hid (s56.at R5.out (by omega))
    have O6 := hid (s56.at O5.out (by omega))
    have D6 := s56.map HD5.out (fun e => nrm e.symm)
    have c3 := cell_blk X6.out (j := 3) rfl
    obtain ⟨w7, hdel, hD7, ht7⟩ := D6.drop keyed3 Tryz.underlying272 (key_int (last : Int) hIl) 0
    have s67 := map_st' ht7
    have X7 := hid (s67.at X6.out nrm)
    have G7 := hid (s67.at G6.out ngm)
    have R7 := hid (s67.at R6.out (by omega))
    have O7 := hid (s67.at O6.out (by omega))
    have hsl' : (s.rows.set n pl).length = s.rows.length := by simp
    have hH7 := HH5.out.drop (HD5.out.tidy keyed3) (by omega) (by rw [hsl', HLI.out]; exact hIl)
    rw [hsl', HLI.out] at hH7
    have HD7 := hid hD7
    have HH7 := hid hH7
    have S37 : Hid (St (Ft rb mb (.slice (some ⟨g, 0, none⟩) (s.rows.length * s.w) cap)) w3 w7) := by
      refine (St.trans (S := Ft rb mb (.slice (some ⟨g, 0, none⟩) (s.rows.length * s.w) cap)) ⟨S35.out.os, S35.out.tape, S35.out.output, S35.out.size, fun k hk hn => S35.out.block k hk fun e => hn (e.elim (fun e => .inr (.inr (by rw [e]; rfl))) (fun e => .inr (.inl e)))⟩ s56 fun _ _ q => .inl q).trans s67 fun _ _ q => .inr (.inl q)
    clear D6 ht7 s56 s67 hD7 hH7 hw6 q1 q2 f2
    obtain ⟨d0, d1, d2, d3, d4, d5, -, -, -, -, -, -⟩ := lies O7.out
    obtain ⟨x0, x1, x2, x3, x4, x5, f0, f1, f2, f3, f4, f5⟩ := lies R7.out
    go_wp2_with fail
    have PB := put6_blk R7.out rfl s.comp p
    have PS := put6_st w7 W.heap.size s.comp p
    unfold put6 at PB PS
    obtain ⟨d0, d1, d2, d3, d4, d5, -, -, -, -, -, -⟩ := lies PB
    generalize (((((w7.setCell ⟨W.heap.size, 0, none⟩ (.int .i64 s.comp)).setCell ⟨W.heap.size, 1, none⟩ (.int .i64 p.a)).setCell ⟨W.heap.size, 2, none⟩ (.int .i64 p.b)).setCell ⟨W.heap.size, 3, none⟩ (.int .i64 p.c)).setCell ⟨W.heap.size, 4, none⟩ (.int .i64 p.d)).setCell ⟨W.heap.size, 5, none⟩ (.int .i64 p.t) = w8 at *
    have X8 := PS.at X7.out (by omega)
    have G8 := PS.at G7.out (by omega)
    have D8 := PS.map HD7.out (by omega)
    rw [HCU.out] at G8
    rw [← HO2.out, HLA.out] at X8
    have FN := H.out.took n hnl pl HPL.out hLc hcm hcs HFL.out hBg X8 G8 _ D8 HH7.out
    have SF : St (Ft rb mb (.slice (some ⟨g, 0, none⟩) (s.rows.length * s.w) cap)) W w8 := ((St.of_below B2.out).trans S37.out fun _ _ q => q).trans PS fun k hk q => by omega
    exact bodyPost_ret (v := .tuple #[.agg #[.int .i64 s.comp, .int .i64 p.a, .int .i64 p.b, .int .i64 p.c, .int .i64 p.d, .int .i64 p.t], .nilIface]) (by simp [results, Tryz.results191, go_sem, d0, d1, d2, d3, d4, d5]) rfl ⟨rfl, _, FN, rfl, SF⟩
end Go.Proofs.YthadfdbkkmmgoaaGreatDoor.Co
namespace Go.Proofs.YthadfdbkkmmgoaaGreatDoor.Co
open Go.RowKit Go.Shelf Go.Maps
end Go.Proofs.YthadfdbkkmmgoaaGreatDoor.Co
namespace Go.Proofs.YthadfdbkkmmgoaaGreatDoor.Co
open Go.RowKit Go.Shelf Go.Maps
/-- A row is another one. -/
def CS.turned (s : CS) (n : Nat) (p : Pt) : CS := ⟨s.comp, s.w, s.rows.set n p⟩
/-- What is there once a row's cells and its frame are written. -/
theorem Cl.written {B : Nat} {W W' : World} {rb mb g cap : Nat} {cur' : Array Value} {s : CS} (h : Cl B W rb mb (.slice (some ⟨g, 0, none⟩) (s.rows.length * s.w) cap) s) (n : Nat) (p : Pt) (hf : p.fitB s.w = true) (ht : I64 p.t)
    (hcl : s.rows.length * s.w ≤ cap) (hcm : cap ≤ maxLen) (hcs : cur'.size = cap) (hfl : cur'.toList.take (s.rows.length * s.w) = flat s.w (s.rows.set n p)) (hBg : B ≤ g)
    (hbox : W'.heap[rb]? = some (.cells #[.int .i64 s.comp, .int .i64 (s.w : Int), .slice (some ⟨g, 0, none⟩) (s.rows.length * s.w) cap, .map (some mb)] 274 (0, 0)))
    (hg : W'.heap[g]? = some (.cells cur' 3 (0, 0)))
    (D : DataW Unit) (hD : W'.ownsMap Tryz.prog 3 (plainElem Tryz.prog 3) mb (s.rows.length + 1) D) (hH : Holds D (s.rows.set n p)) :
    Cl B W' rb mb (.slice (some ⟨g, 0, none⟩) (s.rows.length * s.w) cap) (s.turned n p) := by
  have hw4 := h.ok.w4
  have hl : (s.rows.set n p).length = s.rows.length := by simp
  refine ⟨hbox, ?_, ⟨D, own_size hD hH.2, hH⟩, ⟨h.ok.w0, hw4, ?_⟩, ?_, h.low⟩
  · show World.ownsRow _ _ _ _ _ ((s.rows.set n p).length * s.w) (flat s.w (s.rows.set n p))
    rw [hl]
    exact ⟨by rw [flat_len hw4, hl]; omega, .inr ⟨g, cap, cur', rfl, hBg, hg, hcl, hcm, by omega, by rw [Nat.mul_one]; exact hfl⟩⟩
  · intro q hq
    rcases List.mem_or_eq_of_mem_set hq with h1 | h1
    · exact h.ok.fit q h1
    · subst h1; exact ⟨hf, ht⟩
  · show (s.rows.set n p).length ≤ 1000
    rw [hl]; exact h.small
end Go.Proofs.YthadfdbkkmmgoaaGreatDoor.Co
namespace Go.Proofs.YthadfdbkkmmgoaaGreatDoor.Co
open Go.RowKit Go.Shelf Go.Maps
end Go.Proofs.YthadfdbkkmmgoaaGreatDoor.Co
namespace Go.Proofs.YthadfdbkkmmgoaaGreatDoor.Co
open Go.RowKit Go.Shelf Go.Maps
end Go.Proofs.YthadfdbkkmmgoaaGreatDoor.Co
namespace Go.Proofs.YthadfdbkkmmgoaaGreatDoor.Co
open Go.RowKit Go.Shelf Go.Maps
theorem eqA (n : Nat) (h : ∀ (x : Int) (w : World), (Op.equalIn n 3 (.int .i64 x) (.int .i64 x)).run Tryz.prog w = .ok true w) (w : World) (a b c e : Int) : (Op.equalIn (n + 1) 87 (.agg #[.int .i64 a, .int .i64 b, .int .i64 c, .int .i64 e]) (.agg #[.int .i64 a, .int .i64 b, .int .i64 c, .int .i64 e])).run Tryz.prog w = .ok true w := by
  have u32 := Tryz.underlying87
  have a3 := Tryz.isAgg3
  have z3 := Tryz.sizeOf3
  simp only [Op.equalIn, Sem.run_bind, run_underlying u32, Result.andThen_ok, z3]
  simp [Std.Legacy.Range.forIn_eq_forIn_range', Std.Legacy.Range.size, List.range', part, a3, z3, h, go_sem]
theorem eqI (d : Nat) (x : Int) (w : World) : (Op.equalIn (d + 1) 3 (.int .i64 x) (.int .i64 x)).run Tryz.prog w = .ok true w := by
  rw [run_equalIn_int w d 3 .i64 .i64 x x Tryz.underlying3]
  simp
theorem eqPart (x a b c e t : Int) (w : World) : (Op.equalIn 10000 89 (.agg #[.int .i64 x, .int .i64 a, .int .i64 b, .int .i64 c, .int .i64 e, .int .i64 t]) (.agg #[.int .i64 x, .int .i64 a, .int .i64 b, .int .i64 c, .int .i64 e, .int .i64 t])).run Tryz.prog w = .ok true w := by
  have hS : Tryz.prog.underlying 89 = some (.struct (Tryz.prog.fieldsOf 89)) := by kernel_rfl
  have hp : Tryz.prog.stoodInHeld 89 = false := by kernel_rfl
  have h := run_equalIn_agg (P := Tryz.prog) w 9999 89 #[.int .i64 x, .int .i64 a, .int .i64 b, .int .i64 c, .int .i64 e, .int .i64 t] #[.int .i64 x, .int .i64 a, .int .i64 b, .int .i64 c, .int .i64 e, .int .i64 t] hS hp
  have u3 := Tryz.underlying3
  have a3 := Tryz.isAgg3
  have z3 := Tryz.sizeOf3
  have u32 := Tryz.underlying87
  have a32 := Tryz.isAgg87
  have z32 := Tryz.sizeOf87
  have hA : ∀ w, (Op.equalIn 9999 87 (.agg #[.int .i64 a, .int .i64 b, .int .i64 c, .int .i64 e]) (.agg #[.int .i64 a, .int .i64 b, .int .i64 c, .int .i64 e])).run Tryz.prog w = .ok true w := fun w => eqA 9998 (eqI 9997) w a b c e
  simp only [Program.fieldsOf, Tryz.underlying89] at h
  rw [show (10000 : Nat) = 9999 + 1 from rfl, h]
  clear h hS hp
  go_simp
theorem neqP (x a b c e t : Int) (w : World) : (binOp .neq 89 (.agg #[.int .i64 x, .int .i64 a, .int .i64 b, .int .i64 c, .int .i64 e, .int .i64 t]) (.agg #[.int .i64 x, .int .i64 a, .int .i64 b, .int .i64 c, .int .i64 e, .int .i64 t])).run Tryz.prog w = .ok (.bool false) w := by
  simp only [binOp]
  simp [Op.equal, Op.maxDepth, eqPart]
theorem eqlP (x a b c e t : Int) (w : World) : (binOp .eql 89 (.agg #[.int .i64 x, .int .i64 a, .int .i64 b, .int .i64 c, .int .i64 e, .int .i64 t]) (.agg #[.int .i64 x, .int .i64 a, .int .i64 b, .int .i64 c, .int .i64 e, .int .i64 t])).run Tryz.prog w = .ok (.bool true) w := by
  simp only [binOp]
  simp [Op.equal, Op.maxDepth, eqPart]
def gI (n : Nat) : Value := .int .i64 (n : Int)
/-- A row of numbers. -/
def Ints (B : Nat) (W : World) (v : Value) (l : List Nat) : Prop := W.ownsRow B 3 1 v l.length (l.map gI)
theorem Ints.later {B : Nat} {W W' : World} {v : Value} {l : List Nat} (h : Ints B W v l) (hb : Below W.heap.size W W') : Ints B W' v l := own_later h fun _ _ _ hb' => blk_seen hb (Nat.le_refl _) hb'
theorem Ints.slice {B : Nat} {W : World} {v : Value} {l : List Nat} (h : Ints B W v l) : ∃ a c, v = .slice a l.length c := own_slice h
theorem Ints.some {B : Nat} {W : World} {a : Option Addr} {c : Nat} {l : List Nat} (h : Ints B W (.slice a l.length c) l) (h0 : 0 < l.length) : ∃ g, a = Option.some ⟨g, 0, none⟩ ∧ B ≤ g ∧ g < W.heap.size := own_some h h0
theorem Ints.cell {B : Nat} {W : World} {g c : Nat} {l : List Nat} (h : Ints B W (.slice (Option.some ⟨g, 0, none⟩) l.length c) l) {j k : Nat} (hj : l[j]? = Option.some k) : W.cell? ⟨g, j, none⟩ = Option.some (.int .i64 (k : Int)) := by
  have hlt := (List.getElem?_eq_some_iff.1 hj).1
  rw [World.ownsRow.cellAt h j (by omega), List.getElem?_map, hj]
  rfl
/-- append of one number. -/
theorem wpList_num {ops : Array Oper} {rest : List Oper} {o : Oper} {a : Act} {Q : Exit → Act → World → Prop} (hgd : o.guard = none) (s x : Operand)
    (ho : o.op = .call { callee := .builtin .append, args := #[s, x], argTypes := #[68, 68] }) {B : Nat} {wc : World} {v : Value} {l : List Nat} {k : Nat} (hown : Ints B wc v l) (hl : l.length ≤ 1000) (hB : B ≤ wc.heap.size)
    (hs : a.eval s = v) (hx : a.eval x = .slice (some ⟨wc.heap.size, 0, none⟩) 1 1)
    (h : ∀ v' w2, Hid (Ints B w2 v' (l ++ [k])) → Hid (St (fun x => v.ownBlock = some x) wc w2) → wpList Tryz.prog ops Q rest (a.put o.dst v') w2) :
    wpList Tryz.prog ops Q (o :: rest) a (wc.alloc (.cells #[.int .i64 (k : Int)] 3)) := by
  obtain ⟨i0, hi, hz0, hz1, hz2⟩ := info_parts infoInt3
  have hb : Below wc.heap.size wc (wc.alloc (.cells #[.int .i64 (k : Int)] 3)) := bAl _ _
  have ho2 : (wc.alloc (.cells #[.int .i64 (k : Int)] 3)).ownsRow B 3 1 v l.length (l.map gI) := World.ownsRow.alloc hown _
  refine wpList_append_lies _ hgd s x 68 ho B 3 i0 (.int .i64 0) 1 8 Tryz.underlying68 hi hz0 hz1 hz2 rfl (by decide) v l.length (l.map gI) hs ho2 ⟨wc.heap.size, 0, none⟩ 1 1 [gI k] hx rfl (fun j u hu => by
    rw [add_at]
    match j, hu with
    | 0, hu => simp at hu; subst hu; exact new_cell wc _ 3
    | j + 1, hu => simp at hu) (by intro u hu; simp at hu; subst hu; rfl) (by decide) (by unfold maxLen; omega) (by omega) (by simp; omega) (wc.heap.size + 1) (by simp) ?_
  intro g' cap w2 ow hg hat hlt
  refine h _ w2 ?_ ((St.of_below hb).trans (St.of_grown (S := fun x => v.ownBlock = some x) hg fun k e => e) fun _ _ q => q)
  show World.ownsRow _ _ _ _ _ _ _
  have e : (l ++ [k]).length = l.length + 1 := by simp
  rw [e, List.map_append]
  exact ow
/-- The rows that were changed in a frame or behind it, among the first k. -/
def since (l : List Pt) (f : Int) : Nat → List Nat
  | 0 => []
  | k + 1 => if f ≤ tickAt l (k : Int) then since l f k ++ [k] else since l f k
theorem since_len (l : List Pt) (f : Int) (k : Nat) : (since l f k).length ≤ k := by
  induction k with
  | zero => simp [since]
  | succ k ih =>
    unfold since
    split
    · simp; omega
    · omega
set_option maxHeartbeats 1600000 in
set_option maxRecDepth 100000 in
theorem same_any {B B' : Nat} {W : World} {v u : Value} {l : List Nat} (h : Ints B W v l) (h' : Ints B' W u l) (hl : l.length ≤ 1000) :
    Calls Tryz.prog 64 #[v, u] W fun e W' => e = .returned (.bool true) ∧ Below W.heap.size W W' := by
  obtain ⟨va, vc, rfl⟩ := h.slice
  obtain ⟨ua, uc, rfl⟩ := h'.slice
  have H := hid h
  have H' := hid h'
  have hli : (l.length : Int) ≤ 1000 := by omega
  clear h h'
  go_enter Tryz.func64, Tryz.ntmps64
  go_wp2_with fail
  go_loopw [5] (fun i wr => ∃ k : Nat, k ≤ l.length ∧ i = .int .i64 (k : Int) ∧ Hid (Below W.heap.size W wr)) (fun i _ => l.length - (intOf i).toNat)
  case atStart => exact ⟨0, Nat.zero_le _, rfl, Below.refl _ _⟩
  case round =>
    obtain ⟨k, hk, rfl, HB⟩ := hrel
    by_cases hlt : k < l.length
    · have hki : (k : Int) < (l.length : Int) := by omega
      obtain ⟨g, rfl, -, -⟩ := H.out.some (by omega)
      obtain ⟨g', rfl, -, -⟩ := H'.out.some (by omega)
      obtain ⟨p, hp⟩ := at_lt l k hlt
      have d0 := (H.out.later HB.out).cell hp
      have f0 := (H'.out.later HB.out).cell hp
      clear hp
      go_wp2_with fail
      go_quiet (fail)
      go_wp2_with fail
      exact ⟨⟨k + 1, by omega, by go_num, HB.out.trans ((drewN_below _ _).mono HB.out.size)⟩, by simp [intOf]; omega⟩
    · have hki : ¬ ((k : Int) < (l.length : Int)) := by omega
      go_wp2_with fail
      go_ret
      exact ⟨rfl, HB.out⟩
end Go.Proofs.YthadfdbkkmmgoaaGreatDoor.Co
namespace Go.Proofs.YthadfdbkkmmgoaaGreatDoor.Co
open Go.RowKit Go.Shelf Go.Maps
/-- A column whose blocks are S. -/
def Col (B : Nat) (W : World) (rb : Nat) (s : CS) (S : Nat → Prop) : Prop := ∃ mb sv, Cl B W rb mb sv s ∧ ∀ k, S k ↔ Ft rb mb sv k
section
variable {B : Nat} {W W' : World} {rb : Nat} {s : CS} {S : Nat → Prop}
theorem Col.kept {T : Nat → Prop} (h : Col B W rb s S) (hs : St T W W') (hd : ∀ k, S k → ¬ T k) : Col B W' rb s S := by
  obtain ⟨mb, sv, h1, h2⟩ := h
  exact ⟨mb, sv, h1.kept hs fun k hk => hd k ((h2 k).2 hk), h2⟩
theorem Col.later (h : Col B W rb s S) (hb : Below W.heap.size W W') : Col B W' rb s S := h.kept (T := fun _ => False) (St.of_below hb) fun _ _ q => q
theorem Col.lt (h : Col B W rb s S) (k : Nat) (hk : S k) : B ≤ k ∧ k < W.heap.size := by
  obtain ⟨mb, sv, h1, h2⟩ := h
  exact h1.lt k ((h2 k).1 hk)
theorem Col.ok (h : Col B W rb s S) : s.ok := by obtain ⟨mb, sv, h1, h2⟩ := h; exact h1.ok
theorem Col.small (h : Col B W rb s S) : s.rows.length ≤ 1000 := by obtain ⟨mb, sv, h1, h2⟩ := h; exact h1.small
theorem Col.base (h : Col B W rb s S) : B ≤ W.heap.size := by obtain ⟨mb, sv, h1, h2⟩ := h; exact h1.base
theorem Col.below (h : Col B W rb s S) (hs : St S W W') : Below B W W' := hs.below (fun k hk => (h.lt k hk).1) h.base
theorem col_new (W : World) (c : Int) (w : Nat) (h0 : 0 ≤ c) (h1 : c ≤ 15) (hw0 : 1 ≤ w) (hw : w ≤ 4) :
    Calls Tryz.prog 188 #[.int .i64 c, .int .i64 (w : Int)] W fun e W' => ∃ rb S, e = .returned (.tuple #[.pointer (some ⟨rb, 0, none⟩), .nilIface]) ∧ Col W.heap.size W' rb ⟨c, w, []⟩ S ∧ Below W.heap.size W W' := by
  refine (new_some W c w h0 h1 hw0 hw).mono ?_
  rintro e w1 ⟨rfl, h, hb⟩
  exact ⟨_, _, rfl, ⟨_, _, h, fun _ => Iff.rfl⟩, hb⟩
theorem col_push (h : Col B W rb s S) (p : Pt) (hf : p.fitB s.w = true) (ht : I64 p.t) (hsm : s.rows.length < 1000) :
    Calls Tryz.prog 189 #[.pointer (some ⟨rb, 0, none⟩), p.val s.comp] W fun e W' => e = .returned (.tuple #[.int .i64 (s.rows.length : Int), .nilIface]) ∧ ∃ S', Col B W' rb ⟨s.comp, s.w, s.rows ++ [p]⟩ S' ∧ St S W W' ∧ ∀ x, S' x → S x ∨ W.heap.size ≤ x := by
  obtain ⟨mb, sv, h1, h2⟩ := h
  refine (push_ok h1 p hf ht hsm).mono ?_
  rintro e w ⟨rfl, sv', h3, h4, h5⟩
  refine ⟨rfl, _, ⟨mb, sv', h3, fun _ => Iff.rfl⟩, ⟨h5.os, h5.tape, h5.output, h5.size, fun k hk hn => h5.block k hk fun q => hn ((h2 k).2 q)⟩, fun x hx => ?_⟩
  rcases hx with hx | hx | hx
  · exact .inl ((h2 x).2 (.inl hx))
  · exact .inl ((h2 x).2 (.inr (.inl hx)))
  · rcases h4 with h4 | ⟨y, h4, h6⟩
    · exact .inl ((h2 x).2 (.inr (.inr (h4 ▸ hx))))
    · rw [h4] at hx; simp at hx; exact .inr (by omega)
theorem col_pushbad (Ad : Nat → Addr) (h : Col B W rb s S) (hE : Env3 W Ad) (cm : Int) (p : Pt) (hc : cm ≠ s.comp ∨ p.fitB s.w = false) :
    Calls Tryz.prog 189 #[.pointer (some ⟨rb, 0, none⟩), p.val cm] W fun e W' => ∃ t q, e = .returned (.tuple #[.int .i64 0, .iface t q]) ∧ Err Ad W' (.iface t q) 1 2 ∧ Below W.heap.size W W' := by
  obtain ⟨mb, sv, h1, h2⟩ := h
  exact push_bad Ad h1 hE cm p hc
theorem col_row (h : Col B W rb s S) (n : Nat) (p : Pt) (hp : s.rows[n]? = some p) :
    Calls Tryz.prog 124 #[.pointer (some ⟨rb, 0, none⟩), .int .i64 (n : Int)] W fun e W' => e = .returned (.tuple #[p.val s.comp, .nilIface]) ∧ Below W.heap.size W W' := by
  obtain ⟨mb, sv, h1, h2⟩ := h
  exact row_some h1 n p hp
theorem col_rownone (Ad : Nat → Addr) (h : Col B W rb s S) (hE : Env3 W Ad) (i : Int) (hi : I64 i) (hr : rowAt s.rows i = none) :
    Calls Tryz.prog 124 #[.pointer (some ⟨rb, 0, none⟩), .int .i64 i] W fun e W' => ∃ t q, e = .returned (.tuple #[.agg #[.int .i64 0, .int .i64 0, .int .i64 0, .int .i64 0, .int .i64 0, .int .i64 0], .iface t q]) ∧ Err Ad W' (.iface t q) 7 1 ∧ Below W.heap.size W W' := by
  obtain ⟨mb, sv, h1, h2⟩ := h
  exact row_none Ad h1 hE i hi hr
theorem col_take (h : Col B W rb s S) (n : Nat) (p : Pt) (hp : s.rows[n]? = some p) (pl : Pt) (hpl : s.rows[s.rows.length - 1]? = some pl) :
    Calls Tryz.prog 191 #[.pointer (some ⟨rb, 0, none⟩), .int .i64 (n : Int)] W fun e W' => e = .returned (.tuple #[p.val s.comp, .nilIface]) ∧ Col B W' rb (s.taken n pl) S ∧ St S W W' := by
  obtain ⟨mb, sv, h1, h2⟩ := h
  refine (take_ok h1 n p hp pl hpl).mono ?_
  rintro e w ⟨rfl, sv', h3, h4, h5⟩
  refine ⟨rfl, ⟨mb, sv', h3, fun k => ?_⟩, ⟨h5.os, h5.tape, h5.output, h5.size, fun k hk hn => h5.block k hk fun q => hn ((h2 k).2 q)⟩⟩
  rw [h2 k]
  unfold Ft
  rw [h4]
theorem col_takenone (Ad : Nat → Addr) (h : Col B W rb s S) (hE : Env3 W Ad) (i : Int) (hi : I64 i) (hr : rowAt s.rows i = none) :
    Calls Tryz.prog 191 #[.pointer (some ⟨rb, 0, none⟩), .int .i64 i] W fun e W' => ∃ t q, e = .returned (.tuple #[.agg #[.int .i64 0, .int .i64 0, .int .i64 0, .int .i64 0, .int .i64 0, .int .i64 0], .iface t q]) ∧ Err Ad W' (.iface t q) 7 2 ∧ Below W.heap.size W W' := by
  obtain ⟨mb, sv, h1, h2⟩ := h
  exact take_none Ad h1 hE i hi hr
theorem col_len (h : Col B W rb s S) : Calls Tryz.prog 203 #[.pointer (some ⟨rb, 0, none⟩)] W fun e W' => e = .returned (.int .i64 (s.rows.length : Int)) ∧ W' = W := by
  obtain ⟨mb, sv, h1, h2⟩ := h
  exact len_any h1
end
theorem Env3.same {w : World} {Ad : Nat → Addr} (h : Env3 w Ad) {p k : Nat} (hp : p ∈ three) (hk : k ∈ three) : decide (Ad p = Ad k) = decide (p = k) := by
  by_cases e : p = k
  · subst e; simp
  · have : Ad p ≠ Ad k := fun h' => e (h.inj p hp k hk h')
    simp [e, this]
theorem is_err (Ad : Nat → Addr) {W : World} {v : Value} {p k d : Nat} (hE : Env3 W Ad) (h : Err Ad W v p d) (hp : p ∈ three) (hk : k ∈ three) :
    Calls Tryz.prog 11 #[v, .iface 330 (.pointer (some (Ad k)))] W fun e W' => e = .returned (.bool (decide (p = k))) ∧ Below W.heap.size W W' := by
  obtain ⟨ws, h⟩ := h
  obtain ⟨t, q, rfl, -⟩ := h.1.shape
  refine is_by Ad k t q _ W ((eis_gen Ad W.heap.size k W ws _ p (hE.sen p hp) (hE.sen k hk) (hE.same hp hk) h.1).mono ?_)
  rintro e w' ⟨rfl, rfl⟩
  exact ⟨rfl, Below.refl _ _⟩
theorem ints_one (W : World) (k : Nat) : Ints W.heap.size (W.alloc (.cells #[.int .i64 (k : Int)] 3)) (.slice (some ⟨W.heap.size, 0, none⟩) 1 1) [k] :=
  ⟨rfl, .inr ⟨W.heap.size, 1, #[.int .i64 (k : Int)], rfl, Nat.le_refl _, heap_alloc_new W _, Nat.le_refl _, by unfold maxLen; omega, rfl, rfl⟩⟩
theorem balloc {w0 W : World} (h : Below w0.heap.size w0 W) (o : Obj) : Below w0.heap.size w0 (W.alloc o) := h.alloc h.size o
end Go.Proofs.YthadfdbkkmmgoaaGreatDoor.Co
namespace Go.Proofs.YthadfdbkkmmgoaaGreatDoor.Co
open Go.RowKit Go.Shelf Go.Maps
section
variable {B : Nat} {W : World} {rb : Nat} {s : CS} {S : Nat → Prop}
end
end Go.Proofs.YthadfdbkkmmgoaaGreatDoor.Co
namespace Go.Proofs.YthadfdbkkmmgoaaGreatDoor.At
open Go.RowKit Go.Shelf Go.Maps
/-- A row of sets that is owned. -/
def Msk (B : Nat) (W : World) (v : Value) (l : List Nat) : Prop := W.ownsRow B 46 1 v l.length (l.map gM)
theorem Msk.kept {B : Nat} {W W' : World} {v : Value} {l : List Nat} {T : Nat → Prop} (h : Msk B W v l) (hs : St T W W') (hd : ∀ k, v.ownBlock = some k → ¬ T k) : Msk B W' v l :=
  own_later h fun k _ hk hb => (hs.block k (Array.getElem?_eq_some_iff.1 hb).1 (hd k hk)).trans hb
theorem Msk.later {B : Nat} {W W' : World} {v : Value} {l : List Nat} (h : Msk B W v l) (hb : Below W.heap.size W W') : Msk B W' v l := own_later h fun _ _ _ hb' => blk_seen hb (Nat.le_refl _) hb'
theorem Msk.slice {B : Nat} {W : World} {v : Value} {l : List Nat} (h : Msk B W v l) : ∃ a c, v = .slice a l.length c := own_slice h
theorem Msk.lower {B B' : Nat} {W : World} {v : Value} {l : List Nat} (h : Msk B W v l) (hB : B' ≤ B) : Msk B' W v l :=
  ⟨h.1, h.2.elim .inl fun ⟨g, cap, cur, h1, h2, h3⟩ => .inr ⟨g, cap, cur, h1, by omega, h3⟩⟩
theorem Msk.cell {B : Nat} {W : World} {a : Option Addr} {c : Nat} {l : List Nat} (h : Msk B W (.slice a l.length c) l) {i m : Nat} (hi : l[i]? = some m) : ∃ g, a = some ⟨g, 0, none⟩ ∧ W.cell? ⟨g, i, none⟩ = some (.int .u32 (m : Int)) := by
  have hlt := (List.getElem?_eq_some_iff.1 hi).1
  obtain ⟨g, rfl, -, -⟩ := own_some h (by omega)
  refine ⟨g, rfl, ?_⟩
  rw [World.ownsRow.cellAt h i (by omega), List.getElem?_map, hi]
  rfl
theorem msk_one (W : World) (m : Nat) : Msk 0 (W.alloc (.cells #[.int .u32 (m : Int)] 46)) (.slice (some ⟨W.heap.size, 0, none⟩) 1 1) [m] :=
  ⟨rfl, .inr ⟨W.heap.size, 1, #[.int .u32 (m : Int)], rfl, Nat.zero_le _, heap_alloc_new W _, Nat.le_refl _, by unfold maxLen; omega, rfl, rfl⟩⟩
theorem msk_none (W : World) : Msk W.heap.size (W.alloc (.cells #[] 46)) (.slice (some ⟨W.heap.size, 0, none⟩) 0 0) [] :=
  World.ownsRow_lit (base := W.heap.size) (e := 46) (size := 1) W #[] 0 (Nat.le_refl _) (Nat.zero_le _) rfl
theorem run_msk {B N : Nat} {wc : World} {v sv : Value} {xs ns : List Nat} (hown : Msk N wc v xs) (hsrc : Msk B wc sv ns) (hl : xs.length + ns.length ≤ 200000) (hN : N ≤ wc.heap.size) (ty : TypeId) :
    ∃ v' w', (Builtin.append_ #[243, 243] ty #[v, sv]).run Tryz.prog wc = .ok v' w' ∧ Msk N w' v' (xs ++ ns) ∧ wc.grownBy w' v.ownBlock := by
  obtain ⟨i0, hi, hz0, hz1, hz2⟩ := info_parts infoInt33
  rcases hsrc.2 with ⟨h1, h2⟩ | ⟨g, cap, cur, h1, h2, h3, h4, h5, h6, h7⟩
  · have hn : ns = [] := List.eq_nil_of_length_eq_zero h2
    subst hn
    rw [h1]
    refine ⟨v, wc, run_append_owned_none wc N 243 ty 46 i0 1 Tryz.underlying243 hi v xs.length (xs.map gM) hown, by rw [List.append_nil]; exact hown, ⟨rfl, rfl, rfl, Nat.le_refl _, fun _ _ _ => rfl⟩⟩
  · rw [h1]
    have hc := hsrc
    rw [h1] at hc
    obtain ⟨v', w', hr, h8, h9, -, -⟩ := run_append_own_at (P := Tryz.prog) wc N 243 ty 46 i0 (.int .u32 0) 1 4 Tryz.underlying243 hi hz0 hz1 hz2 rfl (by decide) v xs.length (xs.map gM) hown ⟨g, 0, none⟩ ns.length cap (ns.map gM) (by simp) (fun j u hu => by
      rw [add_at]
      have hj : j < ns.length * 1 := by have := (List.getElem?_eq_some_iff.1 hu).1; simpa using this
      rw [World.ownsRow.cellAt hc j hj]; exact hu) (by intro u hu; obtain ⟨x, _, rfl⟩ := List.mem_map.1 hu; rfl) (by unfold maxLen; omega) (by omega) hN
    refine ⟨v', w', hr, ?_, h9⟩
    show World.ownsRow _ _ _ _ _ _ _
    rw [List.map_append, List.length_append]
    exact h8
theorem wpList_msk {ops : Array Oper} {rest : List Oper} {o : Oper} {a : Act} {Q : Exit → Act → World → Prop} (hgd : o.guard = none) (s x : Operand)
    (ho : o.op = .call { callee := .builtin .append, args := #[s, x], argTypes := #[243, 243] }) {B : Nat} {w2 wc : World} {v sv : Value} {xs ns : List Nat} (hb : Below w2.heap.size w2 wc) (hown : Msk w2.heap.size wc v xs) (hsrc : Msk B wc sv ns)
    (hl : xs.length + ns.length ≤ 200000) (hs : a.eval s = v) (hx : a.eval x = sv)
    (h : ∀ v' w4, Hid (Msk w2.heap.size w4 v' (xs ++ ns)) → Hid (Below w2.heap.size w2 w4) → wpList Tryz.prog ops Q rest (a.put o.dst v') w4) :
    wpList Tryz.prog ops Q (o :: rest) a wc := by
  refine wpList_plain hgd fun K hK => ?_
  obtain ⟨v', w', hr, h2, h3⟩ := run_msk hown hsrc hl hb.size o.type
  unfold Oper.wp
  simp [execOp, ho, resolve, invoke, builtin, hs, hx, hr, Result.andThen]
  exact hK _ _ (h v' w' h2 (hb.grown h3 hb.size fun k hk => (World.ownsRow.lt hown k hk).1))
end Go.Proofs.YthadfdbkkmmgoaaGreatDoor.At
