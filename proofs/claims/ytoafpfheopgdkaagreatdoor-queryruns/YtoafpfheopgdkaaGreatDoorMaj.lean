/- Texts in one. -/
import Derived.Lib.BitFns
import Derived.BigQuiet
import Derived.Maps.OwnSet
import Derived.DeepKeys4
import Derived.Deep.RegionHeld3
import Derived.Deep.RegionLaw
import Derived.Deep.RegionHeldLaw
import Derived.Deep.AppendLies
import Derived.Deep.QuietTactic
import Derived.Maps.RangeWalk
import Derived.Deep.Cut
import Derived.Deep.LoopGhost
import Derived.Deep.RegionWith
import Derived.Test.YtoafpfheopgdkaaGreatDoorMai
namespace Go.Proofs.YtoafpfheopgdkaaGreatDoor.So
open Go.RowKit Go.Shelf Go.Maps
open Go.Proofs.YtoafpfheopgdkaaGreatDoor.Co (I64 I64_mid Pt Col CS)
open Go.Proofs.YtoafpfheopgdkaaGreatDoor.At (St bAl cell_blk blk_seen blk_free Ints Atl mtB Err)
open Go.Proofs.YtoafpfheopgdkaaGreatDoor.Ro (RS Rol Ents)
open Go.Proofs.YtoafpfheopgdkaaGreatDoor.Rs (SD mskP Prt Prts PRow okW fitP remP pCells)
open Go.Proofs.YtoafpfheopgdkaaGreatDoor.Sc (Cmp Rsc CmpRow RscRow SmallC SmallQ checkL)
/-- A store, and blocks beside it. -/
structure Aw (W1 : World) (sb : Nat) (s : SD) (t : Nat) (fr : List (Nat × Obj)) (w : World) : Prop where
  ex : ∃ c, Sto none W1.heap.size w sb c s ∧ c.t ≤ t ∧ ∀ x ∈ fr, Fr c w x.1 x.2
  bel : Below W1.heap.size W1 w
section
variable {W1 w w' : World} {sb : Nat} {s s' : SD} {t : Nat} {fr : List (Nat × Obj)} {Ad : Nat → Addr}
theorem Aw.later (h : Aw W1 sb s t fr w) (hb : Below w.heap.size w w') : Aw W1 sb s t fr w' := by
  obtain ⟨c, h1, h2, h3⟩ := h.ex
  exact ⟨⟨c, h1.later hb, h2, fun x hx => (h3 x hx).later hb⟩, h.bel.trans (hb.mono h.bel.size)⟩
theorem Aw.alloc (h : Aw W1 sb s t fr w) (cs : Array Value) (ty : TypeId) : Aw W1 sb s t ((w.heap.size, .cells cs ty (0, 0)) :: fr) (w.alloc (.cells cs ty)) := by
  obtain ⟨c, h1, h2, h3⟩ := h.ex
  have hb := bAl w (.cells cs ty)
  refine ⟨⟨c, h1.later hb, h2, fun x hx => ?_⟩, h.bel.trans (hb.mono h.bel.size)⟩
  rcases List.mem_cons.1 hx with rfl | hx
  · exact Fr.new h1 cs ty
  · exact (h3 x hx).later hb
theorem Aw.at (h : Aw W1 sb s t fr w) {k : Nat} {o : Obj} (hk : (k, o) ∈ fr) : w.heap[k]? = some o := by
  obtain ⟨c, h1, h2, h3⟩ := h.ex
  exact (h3 _ hk).2
theorem Aw.few (h : Aw W1 sb s t fr w) {fr' : List (Nat × Obj)} (hf : ∀ x ∈ fr', x ∈ fr) : Aw W1 sb s t fr' w := by
  obtain ⟨c, h1, h2, h3⟩ := h.ex
  exact ⟨⟨c, h1, h2, fun x hx => h3 x (hf x hx)⟩, h.bel⟩
theorem Aw.env (h : Aw W1 sb s t fr w) (hE : Env8 W1 Ad) : Env8 w Ad := hE.later h.bel
theorem Aw.go {c c' : CV} (h1 : Sto none W1.heap.size w sb c s) (h3 : ∀ x ∈ fr, Fr c w x.1 x.2) (hb : Below W1.heap.size W1 w) {t' : Nat} (e1 : Sto none W1.heap.size w' sb c' s') (e2 : c'.t ≤ t') (e3 : Gw c c' w w') : Aw W1 sb s' t' fr w' :=
  ⟨⟨c', e1, e2, fun x hx => (h3 x hx).step e3⟩, hb.trans ((Gw.below h1 e3 hb.size).mono (Nat.le_refl _))⟩
theorem aw_spawn (h : Aw W1 sb s t fr w) (hE : Env8 W1 Ad) (ht : t ≤ 900) {k : Nat} {cur : Array Value} {l : List Prt} {cap : Nat} (hk : (k, .cells cur 71 (0, 0)) ∈ fr) (h3 : l.length ≤ cap) (h4 : cap ≤ maxLen) (h5 : cur.size = cap * 6) (h6 : cur.toList.take (l.length * 6) = pCells l) (hl : l.length ≤ 90) (hc : chkL s.ws l = 0) (hti : ∀ p ∈ l, I64 p.t) {f : List Nat} {i g : Nat} (hf : s.r.free = f ++ [i]) (hg : s.r.gens.getD i 0 + 1 = g) :
    Calls Tryz.prog 18 #[.pointer (some ⟨sb, 0, none⟩), .slice (some ⟨k, 0, none⟩) l.length cap] w fun e w' => e = .returned (.tuple #[.agg #[.int .i64 (i : Int), .int .i64 (g : Int)], .nilIface]) ∧ Aw W1 sb (entered { s with r := s.r.took i } i (sortP l)) (t + 1) fr w' := by
  obtain ⟨c, e1, e2, e3⟩ := h.ex
  refine (spawn_ok Ad e1 (h.env hE) ((e3 _ hk).prow h3 h4 h5 h6) hl hc hti hf (by omega)).mono ?_
  rintro e w' ⟨rfl, c', q1, q2, q3⟩
  exact ⟨by rw [hg], Aw.go e1 e3 h.bel q1 (by omega) q3⟩
theorem aw_match (h : Aw W1 sb s t fr w) (a b : Nat) (ha : a < 4294967296) (hb : b < 4294967296) :
    Calls Tryz.prog 26 #[.pointer (some ⟨sb, 0, none⟩), .int .u32 (a : Int), .int .u32 (b : Int)] w fun e w' => ∃ va vc, e = .returned (.slice va (matched s a b).length vc) ∧ Aw W1 sb s t fr w' := by
  obtain ⟨c, e1, e2, e3⟩ := h.ex
  refine (smatch_any e1 a b ha hb).mono ?_
  rintro e w' ⟨v, rfl, q1, q2⟩
  obtain ⟨va, vc, rfl⟩ := Ents.slice q1
  exact ⟨va, vc, rfl, h.later q2⟩
theorem aw_is (h : Aw W1 sb s t fr w) (hE : Env8 W1 Ad) {v : Value} {d : Nat} (hv : Err Ad w v 7 d) : Calls Tryz.prog 127 #[v, .iface 262 (.pointer (some (Ad 7)))] w fun e w' => e = .returned (.bool true) ∧ Aw W1 sb s t fr w' := by
  refine (Co.is_err Ad (Env8.three (h.env hE)) hv (k := 7) (by decide) (by decide)).mono ?_
  rintro e w' ⟨rfl, q⟩
  exact ⟨by simp, h.later q⟩
end
end Go.Proofs.YtoafpfheopgdkaaGreatDoor.So
namespace Go.Proofs.YtoafpfheopgdkaaGreatDoor.So
open Go.RowKit Go.Shelf Go.Maps
open Go.Proofs.YtoafpfheopgdkaaGreatDoor.Co (I64 I64_mid Pt Col CS)
open Go.Proofs.YtoafpfheopgdkaaGreatDoor.At (St bAl cell_blk blk_seen blk_free Ints Err)
open Go.Proofs.YtoafpfheopgdkaaGreatDoor.Rs (SD mskP Prt Prts PRow okL fitP remP)
theorem ch_kept {Ad : Nat → Addr} {N n₀ k : Nat} {W W' : World} {S : Nat → Prop} (hs : ∀ b, b < n₀ → ¬ S b → W'.heap[b]? = W.heap[b]?) (hn : ∀ b, S b → ∀ str, W.cell? ⟨b, 0, none⟩ ≠ some (.string str)) (hN : n₀ ≤ N) : ∀ {ws : List ByteArray} {v : Value}, Ch Ad n₀ W k ws v → Ch Ad N W' k ws v
  | [], _, hc => hc
  | _ :: _, _, ⟨b, inner, hv, hb, c0, c1, hi⟩ => by
    have e : W'.heap[b]? = W.heap[b]? := hs b hb fun q => hn b q _ c0
    refine ⟨b, inner, hv, by omega, ?_, ?_, ch_kept hs hn hN hi⟩
    · rw [← c0]; simp only [World.cell?, e]
    · rw [← c1]; simp only [World.cell?, e]
theorem cell_int {B : Nat} {W : World} {v : Value} {n : Nat} {xs : List Value} {t : TypeId} {z : Nat} (h : W.ownsRow B t z v n xs) (hz : 0 < z) (hx : ∀ u ∈ xs, ∃ i, u = .int .i64 i) {k : Nat} (hk : v.ownBlock = some k) (hn : 0 < n) (str : ByteArray) : W.cell? ⟨k, 0, none⟩ ≠ some (.string str) := fun e => by
  have hlen := h.1
  have h0 : 0 < xs.length := by rw [hlen]; exact Nat.mul_pos hn hz
  obtain ⟨u, hu⟩ := at_lt xs 0 h0
  have := World.ownsRow.cells h hk 0 u hu
  rw [add_at] at this
  change W.cell? ⟨k, 0, none⟩ = some u at this
  rw [this] at e
  obtain ⟨i, rfl⟩ := hx u (List.mem_of_getElem? hu)
  simp at e
theorem col_nostr {B : Nat} {W : World} {rb : Nat} {s : CS} {S : Nat → Prop} (h : Col B W rb s S) (hne : 0 < s.rows.length) {k : Nat} (hk : S k) (str : ByteArray) : W.cell? ⟨k, 0, none⟩ ≠ some (.string str) := by
  obtain ⟨mb, sv, h1, h2⟩ := h
  rcases (h2 k).1 hk with rfl | rfl | hv
  · intro e
    rw [cell_blk h1.box rfl] at e
    simp at e
  · intro e
    obtain ⟨D, ⟨es, cl, hb, -⟩, -⟩ := h1.map
    simp [World.cell?, hb] at e
  · refine cell_int h1.row (by decide) (fun u hu => ?_) hv (Nat.mul_pos hne h1.ok.1) str
    obtain ⟨p, -, hp⟩ := List.mem_flatMap.1 hu
    obtain ⟨i, -, rfl⟩ := List.mem_map.1 hp
    exact ⟨i, rfl⟩
/-- Errors that were told before are told still. -/
def Ke (W w : World) : Prop := W.heap.size ≤ w.heap.size ∧ ∀ (Ad : Nat → Addr) k ws v, Ch Ad W.heap.size W k ws v → Ch Ad W.heap.size w k ws v
theorem Ke.below {W w w' : World} (h : Ke W w) (hb : Below W.heap.size w w') : Ke W w' := ⟨Nat.le_trans h.1 hb.size, fun Ad k ws v hv => Ch.below hb (h.2 Ad k ws v hv)⟩
theorem Ke.of {W w : World} (hb : Below W.heap.size W w) : Ke W w := ⟨hb.size, fun _ _ _ _ hv => Ch.below hb hv⟩
theorem Ke.err {W w : World} {Ad : Nat → Addr} {v : Value} {k d : Nat} (h : Ke W w) (hv : Err Ad W v k d) : Err Ad w v k d := by
  obtain ⟨ws, h1, h2⟩ := hv
  exact ⟨ws, Ch.wider h.1 (h.2 Ad k ws v h1), h2⟩
section
variable {B : Nat} {W : World} {sb : Nat} {c : CV} {s : SD} {i g : Nat}
end
end Go.Proofs.YtoafpfheopgdkaaGreatDoor.So
namespace Go.Proofs.YtoafpfheopgdkaaGreatDoor.So
open Go.RowKit Go.Shelf Go.Maps
open Go.Proofs.YtoafpfheopgdkaaGreatDoor.Co (I64 I64_mid Pt Col CS eqlP)
open Go.Proofs.YtoafpfheopgdkaaGreatDoor.At (St bAl cell_blk blk_seen blk_free Ints Err)
open Go.Proofs.YtoafpfheopgdkaaGreatDoor.Ro (RS)
open Go.Proofs.YtoafpfheopgdkaaGreatDoor.Rs (SD mskP Prt Prts PRow okL fitP remP)
open Go.Proofs.YtoafpfheopgdkaaGreatDoor.Sc (Cmp Rsc CmpRow RscRow)
end Go.Proofs.YtoafpfheopgdkaaGreatDoor.So
namespace Go.Proofs.YtoafpfheopgdkaaGreatDoor.So
open Go.RowKit Go.Shelf Go.Maps
open Go.Proofs.YtoafpfheopgdkaaGreatDoor.Co (I64 I64_mid)
open Go.Proofs.YtoafpfheopgdkaaGreatDoor.At (St bAl cell_blk blk_seen blk_free)
open Go.Proofs.YtoafpfheopgdkaaGreatDoor.Rs (SD mskP Prt Prts PRow okL fitP wpList_prt)
/-- The part that a law gives a component. -/
def lawP (v : Int) (k : Nat) : Prt := ⟨(k : Int), wrap64 (v + (k : Int)), 0, 0, 0, (k : Int)⟩
def lawL (m : Nat) (v : Int) : Nat → List Prt
  | 0 => []
  | k + 1 => if m.testBit k = true then lawL m v k ++ [lawP v k] else lawL m v k
theorem lawL_len (m : Nat) (v : Int) (k : Nat) : (lawL m v k).length ≤ k := by
  induction k with
  | zero => simp [lawL]
  | succ k ih =>
    unfold lawL
    split
    · simp; omega
    · omega
theorem bit_int (m k : Nat) : ((((m : Int) / 2 ^ k).tmod 2 == 1) : Bool) = m.testBit k := by
  have e : ((m : Int) / 2 ^ k) = ((m / 2 ^ k : Nat) : Int) := by simp
  rw [e, Int.tmod_eq_emod_of_nonneg (Int.natCast_nonneg _)]
  rw [Nat.testBit_eq_decide_div_mod_eq]
  rw [Bool.eq_iff_iff]
  simp
  omega
end Go.Proofs.YtoafpfheopgdkaaGreatDoor.So
namespace Go.Proofs.YtoafpfheopgdkaaGreatDoor.So
open Go.RowKit Go.Shelf Go.Maps
open Go.Proofs.YtoafpfheopgdkaaGreatDoor.At (St bAl cell_blk blk_seen blk_free)
open Go.Proofs.YtoafpfheopgdkaaGreatDoor.Sc (Cmp Rsc CmpRow RscRow SmallC SmallQ checkL)
open Go.Proofs.YtoafpfheopgdkaaGreatDoor.Rs (okW)
theorem infoCmp : (Tryz.prog.info? 96).map (fun i => (i.zero, i.size, i.bytes)) = some (some (.agg #[.string ⟨#[]⟩, .int .i64 0, .bool false, .int .i64 0, .int .i64 0, .int .i64 0, .int .i64 0]), 7, 64) := by kernel_rfl
def cArr (c : Cmp) : List Value := [.string c.s, .int .i64 c.wd, .bool c.rb, .int .i64 c.d0, .int .i64 c.d1, .int .i64 c.d2, .int .i64 c.d3]
def cCells (l : List Cmp) : List Value := l.flatMap cArr
def Cmps (B : Nat) (W : World) (v : Value) (l : List Cmp) : Prop := W.ownsRow B 96 7 v l.length (cCells l)
theorem cCells_at : ∀ (l : List Cmp) (j : Nat) (c : Cmp), l[j]? = some c → ∀ i, i < 7 → (cCells l)[j * 7 + i]? = (cArr c)[i]? := by
  intro l
  induction l with
  | nil => intro j c h; simp at h
  | cons x l ih =>
    intro j c h i hi
    have e : cCells (x :: l) = cArr x ++ cCells l := by simp [cCells]
    have hx : (cArr x).length = 7 := rfl
    cases j with
    | zero =>
      simp at h
      subst h
      rw [e, Nat.zero_mul, Nat.zero_add, List.getElem?_append_left (by omega)]
    | succ j =>
      rw [e, List.getElem?_append_right (by omega), hx, show (j + 1) * 7 + i - 7 = j * 7 + i by omega]
      exact ih j c (by simpa using h) i hi
theorem Cmps.row {B : Nat} {W : World} {v : Value} {l : List Cmp} (h : Cmps B W v l) : CmpRow W v l := by
  rcases h.2 with ⟨rfl, h0⟩ | ⟨g, cap, cur, rfl, -, -, hc, -, -, -⟩
  · obtain rfl := List.length_eq_zero_iff.1 h0
    exact ⟨none, 0, rfl, Nat.le_refl _, .inl rfl⟩
  · refine ⟨_, cap, rfl, hc, .inr ⟨g, 0, rfl, fun j x hj => ?_⟩⟩
    have hj' := (List.getElem?_eq_some_iff.1 hj).1
    have A := cCells_at l j x hj
    have C : ∀ i, i < 7 → W.cell? ⟨g, j * 7 + i, none⟩ = (cArr x)[i]? := fun i hi => (World.ownsRow.cellAt h (j * 7 + i) (by omega)).trans (A i hi)
    rw [Nat.zero_add]
    exact ⟨C 0 (by decide), C 1 (by decide), C 2 (by decide), C 3 (by decide), C 4 (by decide), C 5 (by decide), C 6 (by decide)⟩
theorem step_cmp {ops : Array Oper} {o : Oper} {a : Act} {K : Act → World → Prop} {Q : Exit → Act → World → Prop} {E : Prop} (hgd : o.guard = none) (s x : Operand)
    (ho : o.op = .call { callee := .builtin .append, args := #[s, x], argTypes := #[49, 49] }) {B sb : Nat} {wc : World} {ov : Value} {l : List Cmp} {c : Cmp} (hown : Cmps B wc ov l) (hl : l.length ≤ 1000) (hB : B ≤ wc.heap.size)
    {cs : Array Value} (hbox : wc.heap[sb]? = some (.cells cs 52 (0, 0))) (hcs : cs[0]? = some ov) (hne : ov.ownBlock ≠ some sb)
    (hs : a.eval s = ov) (hx : a.eval x = .slice (some ⟨wc.heap.size, 0, none⟩) 1 1)
    (h : ∀ g' cap w2, Hid (Cmps B w2 (.slice (some ⟨g', 0, none⟩) (l.length + 1) cap) (l ++ [c]) ∧ w2.heap[sb]? = some (.cells cs 52 (0, 0)) ∧ St (fun x => ov.ownBlock = some x) wc w2) → w2.cell? ⟨sb, 0, none⟩ = some ov → w2.frozen? ⟨sb, 0, none⟩ = false → K (a.put o.dst (.slice (some ⟨g', 0, none⟩) (l.length + 1) cap)) w2) :
    if Region.wanted o (yielded ops a.tmps) = true then Oper.wp Tryz.prog o a (wc.alloc (.cells #[.string c.s, .int .i64 c.wd, .bool c.rb, .int .i64 c.d0, .int .i64 c.d1, .int .i64 c.d2, .int .i64 c.d3] 96)).drew K Q else E := by
  obtain ⟨i0, hi, hz0, hz1, hz2⟩ := info_parts infoCmp
  have hb : Below wc.heap.size wc (wc.alloc (.cells #[.string c.s, .int .i64 c.wd, .bool c.rb, .int .i64 c.d0, .int .i64 c.d1, .int .i64 c.d2, .int .i64 c.d3] 96)).drew := ((Below.refl _ _).alloc (Nat.le_refl _) _).drew
  have ho2 : (wc.alloc (.cells #[.string c.s, .int .i64 c.wd, .bool c.rb, .int .i64 c.d0, .int .i64 c.d1, .int .i64 c.d2, .int .i64 c.d3] 96)).drew.ownsRow B 96 7 ov l.length (cCells l) := World.ownsRow.alloc hown _
  have hz : (wc.alloc (.cells #[.string c.s, .int .i64 c.wd, .bool c.rb, .int .i64 c.d0, .int .i64 c.d1, .int .i64 c.d2, .int .i64 c.d3] 96)).drew.heap.size = wc.heap.size + 1 := by simp
  have hh := heap_alloc_new wc (.cells #[.string c.s, .int .i64 c.wd, .bool c.rb, .int .i64 c.d0, .int .i64 c.d1, .int .i64 c.d2, .int .i64 c.d3] 96)
  refine step_append_lies _ hgd s x 49 ho B 96 i0 (.agg #[.string ⟨#[]⟩, .int .i64 0, .bool false, .int .i64 0, .int .i64 0, .int .i64 0, .int .i64 0]) 7 64 Tryz.underlying49 hi hz0 hz1 hz2 rfl (by decide) ov l.length (cCells l) hs ho2 ⟨wc.heap.size, 0, none⟩ 1 1 (cArr c) hx rfl (fun j u hu => by
    rw [add_at]
    exact cell_blk (W := wc.alloc _) hh (by simpa [cArr] using hu)) (by intro u hu; simp [cArr] at hu; rcases hu with rfl | rfl | rfl | rfl | rfl | rfl | rfl <;> rfl) (by decide) (by unfold maxLen; omega) (by omega) (by omega) (wc.heap.size + 1) hz ?_
  intro g' cap w2 ow hg hat hlt
  have st : St (fun x => ov.ownBlock = some x) wc w2 := (St.of_below hb).trans (St.of_grown (S := fun x => ov.ownBlock = some x) hg fun k e => e) fun _ _ q => q
  have hb2 := st.at hbox hne
  refine h g' cap w2 ⟨?_, hb2, st⟩ (cell_blk hb2 hcs) (blk_free hb2 0)
  show World.ownsRow _ _ _ _ _ _ _
  have e : cCells (l ++ [c]) = cCells l ++ cArr c := by simp [cCells]
  rw [e, List.length_append]
  exact ow
def wideC (k : Nat) : Cmp := ⟨⟨#[97 + k.toUInt8]⟩, 1, (k : Int).tmod 2 == 0, 0, 0, 0, 0⟩
def wideL (k : Nat) : List Cmp := (List.range k).map wideC
theorem wide_ok : checkL (wideL 8) [] = [] := by kernel_rfl
theorem wide_w : okW [1, 1, 1, 1, 1, 1, 1, 1] := ⟨by decide, fun w hw => by simp at hw; subst hw; decide⟩
theorem wide_ws : (wideL 8).map (fun c => c.wd) = [1, 1, 1, 1, 1, 1, 1, 1].map fun (w : Nat) => (w : Int) := by kernel_rfl
set_option maxRecDepth 1000000 in
theorem sub_name (k : Nat) (hk : k < 8) (w : World) : (Instr.slice 9 (.string ⟨#[97, 98, 99, 100, 101, 102, 103, 104]⟩) (some (.int .i64 (k : Int))) (some (.int .i64 (IntKind.i64.wrap ((k : Int) + 1)))) none).run Tryz.prog w = .ok (.string (wideC k).s) w := by
  have hkc : k = 0 ∨ k = 1 ∨ k = 2 ∨ k = 3 ∨ k = 4 ∨ k = 5 ∨ k = 6 ∨ k = 7 := by omega
  rcases hkc with rfl | rfl | rfl | rfl | rfl | rfl | rfl | rfl <;> (show _ = _; first | kernel_rfl | (simp [Instr.slice, wideC, go_sem]; done) | rfl)
end Go.Proofs.YtoafpfheopgdkaaGreatDoor.So
namespace Go.Proofs.YtoafpfheopgdkaaGreatDoor.So
open Go.RowKit Go.Shelf Go.Maps
open Go.Proofs.YtoafpfheopgdkaaGreatDoor.At (St bAl cell_blk blk_seen blk_free)
open Go.Proofs.YtoafpfheopgdkaaGreatDoor.Sc (Cmp Rsc CmpRow RscRow SmallC SmallQ checkL)
structure Wi (W w1 : World) (l : List Cmp) (lv : Value) (wr : World) : Prop where
  box : wr.heap[W.heap.size + 1]? = some (.cells #[lv, .slice none 0 0] 52 (0, 0))
  row : Cmps w1.heap.size wr lv l
  st : St (fun k => k = W.heap.size + 1) w1 wr
end Go.Proofs.YtoafpfheopgdkaaGreatDoor.So
namespace Go.Proofs.YtoafpfheopgdkaaGreatDoor.So
open Go.RowKit Go.Shelf Go.Maps
open Go.Proofs.YtoafpfheopgdkaaGreatDoor.Co (I64 I64_mid)
open Go.Proofs.YtoafpfheopgdkaaGreatDoor.Rs (SD mskP Prt okL okW fitP)
theorem lawL_mem (m : Nat) (v : Int) (k : Nat) (p : Prt) : p ∈ lawL m v k ↔ ∃ j, j < k ∧ m.testBit j = true ∧ p = lawP v j := by
  induction k with
  | zero => simp [lawL]
  | succ k ih =>
    unfold lawL
    split
    · rename_i h
      rw [List.mem_append, ih]
      constructor
      · rintro (⟨j, h1, h2, h3⟩ | hp)
        · exact ⟨j, by omega, h2, h3⟩
        · exact ⟨k, by omega, h, by simpa using hp⟩
      · rintro ⟨j, h1, h2, h3⟩
        by_cases e : j = k
        · subst e; exact .inr (by simpa using h3)
        · exact .inl ⟨j, by omega, h2, h3⟩
    · rename_i h
      rw [ih]
      constructor
      · rintro ⟨j, h1, h2, h3⟩; exact ⟨j, by omega, h2, h3⟩
      · rintro ⟨j, h1, h2, h3⟩
        by_cases e : j = k
        · subst e; exact absurd h2 h
        · exact ⟨j, by omega, h2, h3⟩
theorem lawL_sorted (m : Nat) (v : Int) (k : Nat) : (lawL m v k).Pairwise (fun x y => x.c < y.c) := by
  induction k with
  | zero => simp [lawL]
  | succ k ih =>
    unfold lawL
    split
    · refine List.pairwise_append.2 ⟨ih, by simp, fun x hx y hy => ?_⟩
      obtain ⟨j, h1, -, rfl⟩ := (lawL_mem m v k x).1 hx
      simp at hy
      subst hy
      show (j : Int) < (k : Int)
      omega
    · exact ih
def ones : List Nat := [1, 1, 1, 1, 1, 1, 1, 1]
theorem law_fit (v : Int) (j : Nat) (hj : j < 8) : fitP ones (lawP v j) = true := by
  have hw : ones[j]? = some 1 := by
    have : j = 0 ∨ j = 1 ∨ j = 2 ∨ j = 3 ∨ j = 4 ∨ j = 5 ∨ j = 6 ∨ j = 7 := by omega
    rcases this with rfl | rfl | rfl | rfl | rfl | rfl | rfl | rfl <;> rfl
  rw [Rs.fit_in (p := lawP v j) rfl hw]
  rfl
theorem law_chk (m : Nat) (v : Int) : chkL ones (lawL m v 8) = 0 := by
  unfold chkL
  rw [if_pos, if_pos]
  · exact (lawL_sorted m v 8).imp fun h => by omega
  · rw [List.all_eq_true]
    intro p hp
    obtain ⟨j, h1, -, rfl⟩ := (lawL_mem m v 8 p).1 hp
    exact law_fit v j h1
theorem law_tick (m : Nat) (v : Int) : ∀ p ∈ lawL m v 8, I64 p.t := fun p hp => by
  obtain ⟨j, h1, -, rfl⟩ := (lawL_mem m v 8 p).1 hp
  show I64 (j : Int)
  exact I64_mid (by omega) (by omega)
theorem law_sort (m : Nat) (v : Int) : sortP (lawL m v 8) = lawL m v 8 := by
  have ok := sort_ok (law_chk m v) (law_tick m v)
  have pm := sort_perm (lawL m v 8)
  refine ext_key (fun p => p.c.toNat) ?_ ?_ fun x => pm.mem_iff.symm
  · refine List.Pairwise.imp_of_mem (fun {x y} hx hy h => ?_) ok.1.1
    have := (ok.1.2 x hx).1
    have := (ok.1.2 y hy).1
    omega
  · refine List.Pairwise.imp_of_mem (fun {x y} hx hy h => ?_) (lawL_sorted m v 8)
    obtain ⟨j, -, -, rfl⟩ := (lawL_mem m v 8 x).1 hx
    obtain ⟨i, -, -, rfl⟩ := (lawL_mem m v 8 y).1 hy
    change (j : Int) < (i : Int) at h
    show (j : Int).toNat < (i : Int).toNat
    omega
theorem law_msk (m : Nat) (v : Int) : mskP (lawL m v 8) = m % 256 := by
  refine eq_bits fun i => Bool.eq_iff_iff.2 ?_
  rw [msk_mem fun x hx => by obtain ⟨j, -, -, rfl⟩ := (lawL_mem m v 8 x).1 hx; exact Int.natCast_nonneg j, show (256 : Nat) = 2 ^ 8 from rfl, Nat.testBit_mod_two_pow]
  constructor
  · rintro ⟨x, hx, e⟩
    obtain ⟨j, h1, h2, rfl⟩ := (lawL_mem m v 8 x).1 hx
    change (j : Int) = (i : Int) at e
    obtain rfl : j = i := by omega
    simp [h1, h2]
  · intro h
    simp at h
    exact ⟨lawP v i, (lawL_mem m v 8 _).2 ⟨i, h.1, h.2, rfl⟩, rfl⟩
end Go.Proofs.YtoafpfheopgdkaaGreatDoor.So
namespace Go.Proofs.YtoafpfheopgdkaaGreatDoor.So
open Go.RowKit Go.Shelf Go.Maps
open Go.Proofs.YtoafpfheopgdkaaGreatDoor.Co (I64 I64_mid Pt)
open Go.Proofs.YtoafpfheopgdkaaGreatDoor.At (St bAl cell_blk blk_seen blk_free Err)
open Go.Proofs.YtoafpfheopgdkaaGreatDoor.Rs (SD mskP Prt Prts PRow okL fitP remP insP)
section
variable {W1 w w' : World} {sb : Nat} {s : SD} {t : Nat} {fr : List (Nat × Obj)} {Ad : Nat → Addr}
/-- A fresh row of parts is handed to Spawn. -/
theorem aw_spawn2 (h : Aw W1 sb s t fr w) (hE : Env8 W1 Ad) (ht : t ≤ 900) {v : Value} {l : List Prt} (hv : Prts w.heap.size w' v l) (hb : Below w.heap.size w w') (hl : l.length ≤ 90) (hc : chkL s.ws l = 0) (hti : ∀ p ∈ l, I64 p.t) {f : List Nat} {i g : Nat} (hf : s.r.free = f ++ [i]) (hg : s.r.gens.getD i 0 + 1 = g) :
    Calls Tryz.prog 18 #[.pointer (some ⟨sb, 0, none⟩), v] w' fun e w2 => e = .returned (.tuple #[.agg #[.int .i64 (i : Int), .int .i64 (g : Int)], .nilIface]) ∧ Aw W1 sb (entered { s with r := s.r.took i } i (sortP l)) (t + 1) fr w2 := by
  obtain ⟨c, e1, e2, e3⟩ := h.ex
  have h' := h.later hb
  refine (spawn_ok Ad (e1.later hb) (h'.env hE) (prow_out hv fun k hk q => ?_) hl hc hti hf (by omega)).mono ?_
  · have := (e1.lt k q).2
    have := (hv.lt k hk).1
    omega
  · rintro e w2 ⟨rfl, c', q1, q2, q3⟩
    exact ⟨by rw [hg], Aw.go (e1.later hb) (fun x hx => (e3 x hx).later hb) h'.bel q1 (by omega) q3⟩
theorem aw_full (h : Aw W1 sb s t fr w) (hE : Env8 W1 Ad) {v : Value} {l : List Prt} (hv : PRow w v l) (hl : l.length ≤ 90) (hc : chkL s.ws l = 0) (hf : s.r.free = []) :
    Calls Tryz.prog 18 #[.pointer (some ⟨sb, 0, none⟩), v] w fun e w2 => ∃ r, e = .returned (.tuple #[.agg #[.int .i64 0, .int .i64 0], r]) ∧ Er Ad w2 r 6 ∧ Aw W1 sb s t fr w2 := by
  obtain ⟨c, e1, e2, e3⟩ := h.ex
  refine (spawn_full Ad e1 (h.env hE) hv hl hc hf).mono ?_
  rintro e w2 ⟨r, rfl, q1, q2⟩
  exact ⟨r, rfl, q1, h.later q2⟩
theorem aw_parts (h : Aw W1 sb s t fr w) {i g : Nat} (ha : al s i g) : Calls Tryz.prog 28 #[.pointer (some ⟨sb, 0, none⟩), .agg #[.int .i64 (i : Int), .int .i64 (g : Int)]] w fun e w2 => ∃ v, e = .returned (.tuple #[v, .nilIface]) ∧ Prts w.heap.size w2 v (s.at i) ∧ Aw W1 sb s t fr w2 ∧ Below w.heap.size w w2 := by
  obtain ⟨c, e1, e2, e3⟩ := h.ex
  refine (parts_ok e1 ha).mono ?_
  rintro e w2 ⟨v, rfl, q1, q2⟩
  exact ⟨v, rfl, q1, h.later q2, q2⟩
end
end Go.Proofs.YtoafpfheopgdkaaGreatDoor.So
namespace Go.Proofs.YtoafpfheopgdkaaGreatDoor.So
open Go.RowKit Go.Shelf Go.Maps
open Go.Proofs.YtoafpfheopgdkaaGreatDoor.Co (I64 I64_mid)
open Go.Proofs.YtoafpfheopgdkaaGreatDoor.At (an mtB)
open Go.Proofs.YtoafpfheopgdkaaGreatDoor.Ro (RS)
open Go.Proofs.YtoafpfheopgdkaaGreatDoor.Rs (SD mskP Prt okL okW fitP)
/-- i of n places are taken, in their order; who stands at k has L k. -/
structure Run (n i : Nat) (L : Nat → List Prt) (s : SD) : Prop where
  ws : s.ws = ones
  n2 : s.p.length = 64
  free : s.r.free = (List.range' i (n - i)).reverse
  len : s.r.gens.length = n
  gen : ∀ k, k < n → s.r.gens[k]? = some (if k < i then 1 else 0)
  row : ∀ k, k < i → s.at k = L k
  le : i ≤ n
  n64 : n ≤ 64
section
variable {n i : Nat} {L : Nat → List Prt} {s : SD}
theorem run_new (L : Nat → List Prt) (hn : n ≤ 64) : Run n 0 L (madeS ones n) where
  ws := rfl
  n2 := by simp [madeS]
  free := by simp [madeS, RS.fresh, List.range_eq_range']
  len := by simp [madeS, RS.fresh]
  gen := fun k hk => by simp [madeS, RS.fresh, hk]
  row := fun k hk => by omega
  le := Nat.zero_le _
  n64 := hn
theorem Run.split (h : Run n i L s) (hi : i < n) : s.r.free = (List.range' (i + 1) (n - (i + 1))).reverse ++ [i] := by
  rw [h.free, show n - i = (n - (i + 1)) + 1 by omega, List.range'_succ, List.reverse_cons]
theorem Run.zero (h : Run n i L s) (hi : i < n) : s.r.gens.getD i 0 + 1 = 1 := by
  rw [List.getD_eq_getElem?_getD, h.gen i hi, if_neg (by omega)]
  rfl
theorem Run.step (h : Run n i L s) (hi : i < n) : Run n (i + 1) L (entered { s with r := s.r.took i } i (L i)) where
  ws := h.ws
  n2 := by
    have := h.n2
    simp [entered, this]
  free := by
    show (s.r.took i).free = _
    unfold RS.took
    rw [h.split hi]
    simp
  len := by
    show (s.r.took i).gens.length = _
    unfold RS.took
    simp [h.len]
  gen := fun k hk => by
    show (s.r.took i).gens[k]? = _
    unfold RS.took
    by_cases e : k = i
    · subst e
      rw [h.zero hi, List.getElem?_set_self (by rw [h.len]; exact hi), if_pos (by omega)]
    · show (s.r.gens.set i _)[k]? = _
      rw [List.getElem?_set_ne (fun q => e q.symm), h.gen k hk]
      congr 1
      by_cases q : k < i
      · rw [if_pos q, if_pos (by omega)]
      · rw [if_neg q, if_neg (by omega)]
  row := fun k hk => by
    have h64 := h.n64
    have hp := h.n2
    by_cases e : k = i
    · subst e
      exact at_entered _ (by show k < s.p.length; omega)
    · rw [at_other _ e]
      exact h.row k (by omega)
  le := hi
  n64 := h.n64
theorem Run.al (h : Run n i L s) {k : Nat} (hk : k < i) : al s k 1 := by
  have := h.le
  rw [al_iff, h.free, h.gen k (by omega), if_pos hk]
  refine ⟨fun q => ?_, rfl⟩
  simp at q
  omega
theorem Run.count (h : Run n i L s) : s.r.count = i := by
  have := h.le
  unfold RS.count
  rw [h.len, h.free]
  simp
  omega
theorem Run.upto (h : Run n i L s) : ∀ k, k ≤ n → s.r.upto k = (List.range (min k i)).map fun j => (j, 1)
  | 0, _ => rfl
  | k + 1, hk => by
    rw [show s.r.upto (k + 1) = (if k ∈ s.r.free then s.r.upto k else s.r.upto k ++ [(k, s.r.gens.getD k 0)]) from rfl, h.upto k (by omega), h.free, List.getD_eq_getElem?_getD, h.gen k (by omega)]
    by_cases q : k < i
    · rw [if_neg (by simp; omega), if_pos q, show min k i = k by omega, show min (k + 1) i = k + 1 by omega, List.range_succ, List.map_append]
      rfl
    · rw [if_pos (by simp; omega), show min k i = i by omega, show min (k + 1) i = i by omega]
theorem Run.all (h : Run n i L s) : s.r.all = (List.range i).map fun j => (j, 1) := by
  have := h.le
  unfold RS.all
  rw [h.len, h.upto n (Nat.le_refl _), Nat.min_eq_right this]
end
/-- Who of the first k matches. -/
def hits (M : Nat → Nat) (a b k : Nat) : List Nat := (List.range k).filter fun j => mtB a b (M j)
theorem hits_succ (M : Nat → Nat) (a b k : Nat) : hits M a b (k + 1) = if mtB a b (M k) = true then hits M a b k ++ [k] else hits M a b k := by
  unfold hits
  rw [List.range_succ, List.filter_append]
  by_cases q : mtB a b (M k) = true
  · rw [if_pos q]; simp [q]
  · rw [if_neg q]; simp [q]
theorem hits_pre (M : Nat → Nat) (a b : Nat) {k : Nat} : ∀ {k' : Nat}, k ≤ k' → hits M a b k <+: hits M a b k'
  | 0, h => by rw [show k = 0 by omega]; exact List.prefix_refl _
  | k' + 1, h => by
    by_cases e : k = k' + 1
    · rw [e]; exact List.prefix_refl _
    · refine (hits_pre M a b (show k ≤ k' by omega)).trans ?_
      rw [hits_succ]
      split
      · exact List.prefix_append _ _
      · exact List.prefix_refl _
theorem hits_hit (M : Nat → Nat) {a b k n : Nat} (hk : k < n) (hm : mtB a b (M k) = true) : (hits M a b n)[(hits M a b k).length]? = some k := by
  obtain ⟨t, ht⟩ := hits_pre M a b (show k + 1 ≤ n by omega)
  rw [hits_succ, if_pos hm] at ht
  rw [← ht]
  simp
theorem hits_len (M : Nat → Nat) (a b k : Nat) : (hits M a b k).length ≤ k := by
  have := List.length_filter_le (fun j => mtB a b (M j)) (List.range k)
  simpa [hits] using this
theorem Run.matched {n i : Nat} {L : Nat → List Prt} {s : SD} (h : Run n i L s) (M : Nat → Nat) (hM : ∀ k, k < i → mskP (L k) = M k) (a b : Nat) : matched s a b = (hits M a b i).map fun j => (j, 1) := by
  unfold So.matched hits
  rw [h.all, List.filter_map]
  congr 1
  refine List.filter_congr fun j hj => ?_
  have hj : j < i := by simpa using hj
  show mtB a b (mskP (s.at j)) = _
  rw [h.row j hj, hM j hj]
end Go.Proofs.YtoafpfheopgdkaaGreatDoor.So
namespace Go.Proofs.YtoafpfheopgdkaaGreatDoor.So
open Go.RowKit Go.Shelf Go.Maps
open Go.Proofs.YtoafpfheopgdkaaGreatDoor.Co (I64 I64_mid Pt lies put6_blk put6_st put6)
open Go.Proofs.YtoafpfheopgdkaaGreatDoor.At (St bAl cell_blk blk_seen blk_free Err)
open Go.Proofs.YtoafpfheopgdkaaGreatDoor.Ro (RS Ents)
open Go.Proofs.YtoafpfheopgdkaaGreatDoor.Rs (SD mskP Prt Prts PRow okL fitP remP insP)
theorem own_fr {B : Nat} {W : World} {ty : TypeId} {sz : Nat} {v : Value} {n : Nat} {l : List Value} (h : W.ownsRow B ty sz v n l) :
    ∃ fr0 : List (Nat × Obj), (∀ x ∈ fr0, W.heap[x.1]? = some x.2 ∧ v.ownBlock = some x.1) ∧ (∀ k, v.ownBlock = some k → ∃ o, (k, o) ∈ fr0) ∧ ∀ w3 : World, (∀ x ∈ fr0, w3.heap[x.1]? = some x.2) → w3.ownsRow B ty sz v n l := by
  rcases h with ⟨h0, h1 | ⟨g, cap, cur, h1, h2, h3, h4⟩⟩
  · exact ⟨[], fun x hx => by simp at hx, fun k hk => by rw [h1.1] at hk; simp [Value.ownBlock] at hk, fun w3 _ => ⟨h0, .inl h1⟩⟩
  · refine ⟨[(g, .cells cur ty (0, 0))], fun x hx => ?_, fun k hk => ⟨.cells cur ty (0, 0), ?_⟩, fun w3 h5 => ⟨h0, .inr ⟨g, cap, cur, h1, h2, h5 _ (List.mem_cons_self ..), h4⟩⟩⟩
    · obtain rfl : x = (g, .cells cur ty (0, 0)) := by simpa using hx
      exact ⟨h3, by rw [h1]; rfl⟩
    · rw [h1] at hk
      obtain rfl : g = k := by simpa [Value.ownBlock] using hk
      exact List.mem_cons_self ..
/-- A store, and a row of entities beside it. -/
def Ar (W1 : World) (sb : Nat) (s : SD) (t : Nat) (v : Value) (l : List (Nat × Nat)) (w : World) : Prop :=
  Ents W1.heap.size w v l ∧ Below W1.heap.size W1 w ∧ ∃ c, Sto none W1.heap.size w sb c s ∧ c.t ≤ t ∧ ∀ k, v.ownBlock = some k → c.f k = (0, 0, 0)
section
variable {W1 w w' : World} {sb : Nat} {s s' : SD} {t : Nat} {fr : List (Nat × Obj)} {Ad : Nat → Addr} {v v' : Value} {l : List (Nat × Nat)}
theorem Ar.open (h : Ar W1 sb s t v l w) : ∃ fr0, Aw W1 sb s t fr0 w ∧ ∀ s' t' w' fr1, (∀ x ∈ fr0, x ∈ fr1) → Aw W1 sb s' t' fr1 w' → Ar W1 sb s' t' v l w' := by
  obtain ⟨h1, h2, c, h3, h4, h5⟩ := h
  obtain ⟨fr0, e1, e2, e3⟩ := own_fr h1
  refine ⟨fr0, ⟨⟨c, h3, h4, fun x hx => ⟨h5 _ (e1 x hx).2, (e1 x hx).1⟩⟩, h2⟩, fun s' t' w' fr1 hs ha => ?_⟩
  obtain ⟨c', q1, q2, q3⟩ := ha.ex
  refine ⟨e3 w' fun x hx => (q3 x (hs x hx)).2, ha.bel, c', q1, q2, fun k hk => ?_⟩
  obtain ⟨o, ho⟩ := e2 k hk
  exact (q3 _ (hs _ ho)).1
theorem Ar.app {l' : List (Nat × Nat)} (h : Ar W1 sb s t v l w) (ho : Ents W1.heap.size w' v' l') (hst : Ro.St (fun x => v.ownBlock = some x) w w') (hat : v'.ownBlock = v.ownBlock ∨ ∃ x, v'.ownBlock = some x ∧ w.heap.size ≤ x) : Ar W1 sb s t v' l' w' := by
  obtain ⟨h1, h2, c, h3, h4, h5⟩ := h
  have hst' : St (fun x => v.ownBlock = some x) w w' := ⟨hst.os, hst.tape, hst.output, hst.size, hst.block⟩
  refine ⟨ho, h2.trans ((hst'.below (B := W1.heap.size) (fun k hk => (World.ownsRow.lt h1 k hk).1) h2.size).mono (Nat.le_refl _)), c, h3.keep hst' fun k hk q => hk (h5 k q), h4, fun k hk => ?_⟩
  rcases hat with e | ⟨x, e1, e2⟩
  · exact h5 k (by rw [← e]; exact hk)
  · obtain rfl : x = k := by rw [e1] at hk; simpa using hk
    exact Classical.byContradiction fun q => by have := (h3.lt x q).2; omega
theorem Ar.new {k : Nat} (h : Aw W1 sb s t fr w) (hk : (k, .cells #[] 58 (0, 0)) ∈ fr) (hB : W1.heap.size ≤ k) : Ar W1 sb s t (.slice (some ⟨k, 0, none⟩) 0 0) [] w := by
  obtain ⟨c, q1, q2, q3⟩ := h.ex
  refine ⟨⟨rfl, .inr ⟨k, 0, #[], rfl, hB, h.at hk, Nat.le_refl _, by decide, rfl, rfl⟩⟩, h.bel, c, q1, q2, fun k' hk' => ?_⟩
  obtain rfl : k = k' := by simpa [Value.ownBlock] using hk'
  exact (q3 _ hk).1
theorem Ar.later (h : Ar W1 sb s t v l w) (hb : Below w.heap.size w w') : Ar W1 sb s t v l w' := by
  obtain ⟨fr0, h1, h2⟩ := h.open
  exact h2 _ _ _ _ (fun _ hx => hx) (h1.later hb)
/-- The sort of an error is told. -/
theorem is_er (hE : Env8 w Ad) {p k d : Nat} (h : Err Ad w v p d) (hk : k ∈ eight) (hp : p ∈ eight := by decide) : Calls Tryz.prog 127 #[v, .iface 262 (.pointer (some (Ad k)))] w fun e w' => e = .returned (.bool (decide (p = k))) ∧ Below w.heap.size w w' := by
  obtain ⟨ws, h⟩ := h
  obtain ⟨t, q, rfl, -⟩ := h.1.shape
  refine is_by Ad k t q _ w ((eis_gen Ad w.heap.size k w ws _ p (hE.sen p hp (eight_le p hp).2) (hE.sen k hk (eight_le k hk).2) (hE.same hp hk) h.1).mono ?_)
  rintro e w' ⟨rfl, rfl⟩
  exact ⟨rfl, Below.refl _ _⟩
theorem is_er2 (hE : Env8 w Ad) {p k : Nat} (h : Er Ad w v p) (h0 : p ≠ 0) (hk : k ∈ eight) (hp : p ∈ eight := by decide) : Calls Tryz.prog 127 #[v, .iface 262 (.pointer (some (Ad k)))] w fun e w' => e = .returned (.bool (decide (p = k))) ∧ Below w.heap.size w w' := by
  rcases h with ⟨e, -⟩ | ⟨-, tt, qq, rfl, d, hd⟩
  · exact absurd e h0
  · exact is_er hE hd hk hp
/-- An error of one word, in a block. -/
def eBlk (Ad : Nat → Addr) (k : Nat) (str : ByteArray) : Obj := .cells #[.string str, .iface 262 (.pointer (some (Ad k)))] 158 (0, 0)
theorem err_blk {b k : Nat} {str : ByteArray} (h : w.heap[b]? = some (eBlk Ad k str)) (hk : 1 ≤ k ∧ k ≤ 18) : Err Ad w (.iface 156 (.pointer (some ⟨b, 0, none⟩))) k 1 :=
  ⟨[str], ⟨b, _, rfl, (Array.getElem?_eq_some_iff.1 h).1, cell_blk h rfl, cell_blk h rfl, rfl⟩, hk.1, hk.2, Nat.le_refl _⟩
end
section
variable {Ad : Nat → Addr} {W : World} {rv : Value} {i g : Int} {k : Nat}
end
section
variable {W1 w : World} {sb : Nat} {s : SD} {t : Nat} {fr : List (Nat × Obj)} {Ad : Nat → Addr}
theorem Aw.more (h : Aw W1 sb s t fr w) {w' : World} (hb : Below w.heap.size w w') {b : Nat} {o : Obj} (h1 : w.heap.size ≤ b) (h2 : w'.heap[b]? = some o) : Aw W1 sb s t ((b, o) :: fr) w' := by
  have h' := h.later hb
  obtain ⟨c, e1, e2, e3⟩ := h.ex
  refine ⟨⟨c, e1.later hb, e2, fun x hx => ?_⟩, h'.bel⟩
  rcases List.mem_cons.1 hx with rfl | hx
  · exact ⟨Classical.byContradiction fun q => by have := (e1.lt _ q).2; omega, h2⟩
  · exact (e3 x hx).later hb
end
end Go.Proofs.YtoafpfheopgdkaaGreatDoor.So
namespace Go.Proofs.YtoafpfheopgdkaaGreatDoor.So
open Go.RowKit Go.Shelf Go.Maps
open Go.Proofs.YtoafpfheopgdkaaGreatDoor.Co (I64 I64_mid Pt)
open Go.Proofs.YtoafpfheopgdkaaGreatDoor.At (St bAl cell_blk blk_seen blk_free Err)
open Go.Proofs.YtoafpfheopgdkaaGreatDoor.Ro (RS Ents)
open Go.Proofs.YtoafpfheopgdkaaGreatDoor.Rs (SD mskP Prt Prts PRow okL fitP remP insP)
/-- All but one entity have what they had. -/
structure But (n : Nat) (s s' : SD) : Prop where
  ws : s'.ws = s.ws
  al : ∀ j g, j ≠ n → al s j g → al s' j g
  at' : ∀ j, j ≠ n → s'.at j = s.at j
theorem But.refl (n : Nat) (s : SD) : But n s s := ⟨rfl, fun _ _ _ h => h, fun _ _ => rfl⟩
theorem but_entered (n : Nat) (s : SD) (l : List Prt) : But n s (entered s n l) := ⟨rfl, fun _ _ _ h => h, fun _ h => at_other l h⟩
theorem but_rowed (n : Nat) (s : SD) (l : List Prt) : But n s (rowed s n l) := ⟨rfl, fun _ _ _ h => h, fun _ h => at_rowed_other l h⟩
theorem but_freed (n : Nat) (s : SD) : But n s { s with r := s.r.freed n } := ⟨rfl, fun j g hj h => by
  rw [al_iff] at h ⊢
  exact ⟨fun q => by simp [RS.freed] at q; exact q.elim h.1 hj, h.2⟩, fun _ _ => rfl⟩
section
variable {W1 w : World} {sb : Nat} {s : SD} {t : Nat} {fr : List (Nat × Obj)} {Ad : Nat → Addr} {i g : Nat}
theorem aw_nofind (h : Aw W1 sb s t fr w) (hE : Env8 W1 Ad) (hi : I64 (i : Int)) (hg : I64 (g : Int)) (ha : ¬ al s i g) : NoFind Ad w (.pointer (some ⟨sb, 0, none⟩)) i g 17 := by
  obtain ⟨c, e1, e2, e3⟩ := h.ex
  exact nofind_dead Ad e1 (h.env hE) i g hi hg (Bool.eq_false_iff.2 ha)
end
end Go.Proofs.YtoafpfheopgdkaaGreatDoor.So
namespace Go.Proofs.YtoafpfheopgdkaaGreatDoor.Sc
open Go.RowKit Go.Shelf
/-- The set of one number. -/
def bitI (n : Int) : Int := if 0 ≤ n ∧ n < 32 then 2 ^ n.toNat % 4294967296 else 0
set_option maxHeartbeats 800000 in
theorem bit_low (n : Int) (w : World) (h : n < 0) : Calls Tryz.prog 105 #[.int .i64 n] w fun e w' => e = .returned (.int .u32 0) ∧ w' = w := by
  go_enter Tryz.func105, Tryz.ntmps105
  go_wp2
  go_ret
  exact ⟨rfl, rfl⟩
set_option maxHeartbeats 800000 in
theorem bit_high (n : Int) (w : World) (h : 32 ≤ n) : Calls Tryz.prog 105 #[.int .i64 n] w fun e w' => e = .returned (.int .u32 0) ∧ w' = w := by
  have h0 : ¬ n < 0 := by omega
  go_enter Tryz.func105, Tryz.ntmps105
  go_wp2
  go_ret
  exact ⟨rfl, rfl⟩
set_option maxHeartbeats 800000 in
theorem bit_in (n : Nat) (w : World) (h : n < 32) : Calls Tryz.prog 105 #[.int .i64 (n : Int)] w fun e w' => e = .returned (.int .u32 (2 ^ n % 4294967296)) ∧ w' = w := by
  have h0 : ¬ (n : Int) < 0 := by omega
  have h1 : ¬ (32 : Int) ≤ n := by omega
  go_enter Tryz.func105, Tryz.ntmps105
  go_wp2
  go_ret
  exact ⟨rfl, rfl⟩
theorem bit_any (n : Int) (w : World) : Calls Tryz.prog 105 #[.int .i64 n] w fun e w' => e = .returned (.int .u32 (bitI n)) ∧ w' = w := by
  by_cases h0 : n < 0
  · rw [show bitI n = 0 from if_neg (by omega)]; exact bit_low n w h0
  · by_cases h1 : 32 ≤ n
    · rw [show bitI n = 0 from if_neg (by omega)]; exact bit_high n w h1
    · obtain ⟨k, rfl⟩ := Int.eq_ofNat_of_zero_le (show 0 ≤ n by omega)
      rw [show bitI (k : Int) = 2 ^ k % 4294967296 from (if_pos (by omega)).trans (by rw [Int.toNat_natCast])]
      exact bit_in k w (by omega)
def orI (m n : Int) : Int := bits .or .u32 m (bitI n)
set_option maxHeartbeats 800000 in
theorem with_any (m n : Int) (w : World) : Calls Tryz.prog 70 #[.int .u32 m, .int .i64 n] w fun e w' => e = .returned (.int .u32 (bits .or .u32 m (bitI n))) ∧ w' = w := by
  have BC := hid (bit_any n w)
  go_enter Tryz.func70, Tryz.ntmps70
  go_wp2_with fail
  refine BC.out.mono ?_
  rintro e w1 ⟨rfl, rfl⟩
  go_wp2_with fail
  go_ret
  exact ⟨rfl, rfl⟩
set_option maxHeartbeats 800000 in
theorem has_any5 (m n : Int) (w : World) : Calls Tryz.prog 69 #[.int .u32 m, .int .i64 n] w fun e w' => e = .returned (.bool (bits .and .u32 m (bitI n) != 0)) ∧ w' = w := by
  have BC := hid (bit_any n w)
  go_enter Tryz.func69, Tryz.ntmps69
  go_wp2_with fail
  refine BC.out.mono ?_
  rintro e w1 ⟨rfl, rfl⟩
  go_wp2_with fail
  go_ret
  exact ⟨rfl, rfl⟩
set_option maxHeartbeats 800000 in
theorem within_any (m a : Int) (w : World) : Calls Tryz.prog 47 #[.int .u32 m, .int .u32 a] w fun e w' => e = .returned (.bool (bits .andNot .u32 m a == 0)) ∧ w' = w := by
  go_enter Tryz.func47, Tryz.ntmps47
  go_wp2
  go_ret
  exact ⟨rfl, rfl⟩
def ofM (ds : List Int) : Int := ds.foldl orI 0
theorem ofM_next {ds : List Int} {k : Nat} {x : Int} (h : ds[k]? = some x) : ofM (ds.take (k + 1)) = orI (ofM (ds.take k)) x := by
  unfold ofM
  rw [take_next h, List.foldl_append]; rfl
/-- The components of a kind, as a set. -/
def kindM (cs : List Cmp) (b : Bool) : Nat → Int
  | 0 => 0
  | k + 1 => match cs[k]? with | some c => if c.rb == b then orI (kindM cs b k) (k : Int) else kindM cs b k | none => kindM cs b k
theorem kindM_next {cs : List Cmp} {k : Nat} {c : Cmp} (b : Bool) (h : cs[k]? = some c) : kindM cs b (k + 1) = if c.rb == b then orI (kindM cs b k) (k : Int) else kindM cs b k := by simp only [kindM, h]
set_option maxHeartbeats 1600000 in
set_option maxRecDepth 100000 in
theorem kind_any (W : World) (va vb : Value) (cs : List Cmp) (hC : CmpRow W va cs) (hl : cs.length ≤ 1000) (bb : Bool) :
    Calls Tryz.prog 81 #[.agg #[va, vb], .bool bb] W fun e W' => e = .returned (.int .u32 (kindM cs bb (min cs.length 32))) ∧ Below W.heap.size W W' := by
  have HC := hid hC
  obtain ⟨a, c, rfl, hcap, hlay⟩ := hC
  have HL := hid hlay
  obtain ⟨n, hn⟩ : ∃ n, n = min cs.length 32 := ⟨_, rfl⟩
  have hmin : min (cs.length : Int) 32 = (n : Int) := by rw [hn]; omega
  have hnc : (n : Int) ≤ (c : Int) := by omega
  have hn0 : (0 : Int) ≤ (n : Int) := by omega
  have hnl : n ≤ cs.length := by omega
  have hn32 : (n : Int) ≤ 32 := by omega
  have BA : Hid (Below W.heap.size W (W.alloc (.cells #[.slice a cs.length c, vb] 52))) := (Below.refl _ _).alloc (Nat.le_refl _) _
  rw [← hn]
  clear hlay hn
  go_enter Tryz.func81, Tryz.ntmps81
  go_wp2_with fail
  go_loopw [5, 6, 7, 16] (fun m _ _ i wr => ∃ k : Nat, k ≤ n ∧ i = .int .i64 (k : Int) ∧ Hid (Below W.heap.size W wr) ∧ ∃ z : Int, Hid (z = kindM cs bb k) ∧ m = .int .u32 z) (fun _ _ _ i _ => n - (intOf i).toNat)
  case atStart => exact ⟨0, Nat.zero_le _, rfl, BA.out, 0, rfl, rfl⟩
  case round =>
    obtain ⟨k, hk, rfl, HB, z, HZ, rfl⟩ := hrel
    by_cases hlt : k < n
    · have hki : (k : Int) < (n : Int) := by omega
      obtain ⟨x, hx⟩ := at_lt cs k (by omega)
      obtain ⟨b, o, rfl, hc⟩ : ∃ b o, a = some ⟨b, o, none⟩ ∧ ∀ (j : Nat) (x : Cmp), cs[j]? = some x → W.cell? ⟨b, o + j * 7, none⟩ = some (.string x.s) ∧ W.cell? ⟨b, o + j * 7 + 1, none⟩ = some (.int .i64 x.wd) ∧ W.cell? ⟨b, o + j * 7 + 2, none⟩ = some (.bool x.rb) ∧ W.cell? ⟨b, o + j * 7 + 3, none⟩ = some (.int .i64 x.d0) ∧ W.cell? ⟨b, o + j * 7 + 4, none⟩ = some (.int .i64 x.d1) ∧ W.cell? ⟨b, o + j * 7 + 5, none⟩ = some (.int .i64 x.d2) ∧ W.cell? ⟨b, o + j * 7 + 6, none⟩ = some (.int .i64 x.d3) := by
        rcases HL.out with h | h
        · rw [h] at hx; simp at hx
        · exact h
      obtain ⟨c0, c1, c2, c3, c4, c5, c6⟩ := hc k x hx
      have S := fun {p : Addr} {u : Value} (h : W.cell? p = some u) => Below.seen HB.out (Nat.le_refl _) h
      have c0 := S c0
      have c1 := S c1
      have c2 := S c2
      have c3 := S c3
      have c4 := S c4
      have c5 := S c5
      have c6 := S c6
      have KN := hid (kindM_next bb hx)
      have BX := hid (HB.out.alloc HB.out.size (.cells #[.string x.s, .int .i64 x.wd, .bool x.rb, .int .i64 x.d0, .int .i64 x.d1, .int .i64 x.d2, .int .i64 x.d3] 96))
      have WC := hid (fun W' => with_any z (k : Int) W')
      clear S hc hx
      by_cases hq : x.rb = bb
      · have q : (x.rb == bb) = true := by simp [hq]
        have R : Hid (bits .or .u32 z (bitI (k : Int)) = kindM cs bb (k + 1)) := by show _ = _; rw [KN.out, if_pos q, ← HZ.out]; rfl
        clear hq
        go_wp2_with fail
        refine (WC.out _).mono ?_
        rintro e w1 ⟨rfl, rfl⟩
        clear WC
        go_wp2_with fail
        go_roundw
        case rel => exact ⟨k + 1, by omega, by go_num, BX.out, _, R.out, rfl⟩
        case measure => simp [intOf]; omega
      · have q : (x.rb == bb) = false := by simp [hq]
        have R : Hid (z = kindM cs bb (k + 1)) := by show _ = _; rw [KN.out, if_neg (by rw [q]; decide), ← HZ.out]
        clear hq WC
        go_wp2_with fail
        go_roundw
        case rel => exact ⟨k + 1, by omega, by go_num, BX.out, _, R.out, rfl⟩
        case measure => simp [intOf]; omega
    · have hki : ¬ ((k : Int) < (n : Int)) := by omega
      have R : Hid (z = kindM cs bb n) := by show _ = _; rw [HZ.out, show k = n by omega]
      go_wp2_with fail
      go_ret
      exact ⟨by rw [R.out]; rfl, HB.out⟩
set_option maxHeartbeats 800000 in
theorem rollback_any (W : World) (va vb : Value) (hvb : ∃ a l c, vb = .slice a l c) (cs : List Cmp) (hC : CmpRow W va cs) (hl : cs.length ≤ 1000) :
    Calls Tryz.prog 45 #[.agg #[va, vb]] W fun e W' => e = .returned (.int .u32 (kindM cs true (min cs.length 32))) ∧ Below W.heap.size W W' := by
  have BA : Hid (Below W.heap.size W (W.alloc (.cells #[va, vb] 52))) := (Below.refl _ _).alloc (Nat.le_refl _) _
  have KC := hid (kind_any (W.alloc (.cells #[va, vb] 52)) va vb cs (hC.later BA.out) hl true)
  obtain ⟨a, c, rfl, -, -⟩ := hC
  obtain ⟨a', l', c', rfl⟩ := hvb
  go_enter Tryz.func45, Tryz.ntmps45
  go_wp2_with fail
  refine KC.out.mono ?_
  rintro e w1 ⟨rfl, hb1⟩
  have B1 := hid (BA.out.trans (hb1.mono BA.out.size))
  clear hb1 KC
  go_wp2_with fail
  go_ret
  exact ⟨rfl, B1.out⟩
end Go.Proofs.YtoafpfheopgdkaaGreatDoor.Sc
namespace Go.Proofs.YtoafpfheopgdkaaGreatDoor.Sc
open Go.RowKit Go.Shelf
theorem pop_at (b : Int) (h0 : 0 ≤ b) (h : b < 256) (hh : b.toNat < Lib.pop8tab.size) : (Lib.pop8tab[b.toNat].toNat : Int) = (Lib.onesCount b.toNat : Int) := by
  have e := Lib.pop8_eq ⟨b.toNat, by omega⟩
  simp only [Int.toNat_of_nonneg h0] at e
  rw [← e]
  unfold Lib.pop8
  rw [getElem?_pos Lib.pop8tab b.toNat hh]
  rfl
/-- The ones among the first k digits. -/
def ones (k m : Nat) : Nat := Lib.popAux k m
theorem ones_step (k m : Nat) : ones (k + 1) m = ones k m + m / 2 ^ k % 2 := by
  unfold ones
  induction k generalizing m with
  | zero => simp [Lib.popAux]
  | succ k ih =>
    rw [Lib.popAux, ih (m / 2), Lib.popAux, Nat.pow_succ, Nat.div_div_eq_div_mul, Nat.mul_comm 2 (2 ^ k)]
    omega
theorem ones_le (k m : Nat) : ones k m ≤ k := by
  induction k with
  | zero => simp [ones, Lib.popAux]
  | succ k ih => rw [ones_step]; omega
theorem ones8_mod (m : Nat) : ones 8 (m % 256) = ones 8 m := by
  simp only [ones, Lib.popAux]
  omega
theorem ones_more (k m : Nat) : ones (8 + k) m = ones 8 m + ones k (m / 256) := by
  unfold ones
  rw [show 8 + k = k + 1 + 1 + 1 + 1 + 1 + 1 + 1 + 1 by omega]
  simp only [Lib.popAux, Nat.div_div_eq_div_mul, Nat.reduceMul]
  omega
theorem ones64 : ∀ n : Fin 256, Lib.onesCount n.val = ones 8 n.val := by decide +kernel
theorem ones32 (m : Nat) : ones 32 m = ones 8 (m / 16777216 % 256) + ones 8 (m / 65536 % 256) + ones 8 (m / 256 % 256) + ones 8 (m % 256) := by
  rw [ones8_mod, ones8_mod, ones8_mod, ones8_mod, show 32 = 8 + (8 + (8 + 8)) from rfl, ones_more, ones_more, ones_more]
  simp only [Nat.div_div_eq_div_mul, Nat.reduceMul]
  omega
theorem and255 (a : Nat) (h : a < 4294967296) : bits .and .u32 (a : Int) 255 = ((a % 256 : Nat) : Int) := by
  have := bits_mask .u32 32 (by decide) (fun n h0 h1 => by rw [IntKind.wrap_u32]; omega) 8 (by decide) (a : Int) (by omega) (by omega)
  rw [show (255 : Int) = 2 ^ 8 - 1 by decide, this]
  omega
end Go.Proofs.YtoafpfheopgdkaaGreatDoor.Sc
namespace Go.Proofs.YtoafpfheopgdkaaGreatDoor.Sc
open Go.RowKit Go.Shelf
/-- Whether a number is in a set. -/
def inB (m : Nat) (n : Int) : Bool := decide (0 ≤ n ∧ n < 32) && decide (m / 2 ^ n.toNat % 2 = 1)
theorem inB_out (m : Nat) (n : Int) (h : ¬ (0 ≤ n ∧ n < 32)) : inB m n = false := by simp [inB, h]
theorem inB_in (m k : Nat) (h : k < 32) : inB m (k : Int) = decide (m / 2 ^ k % 2 = 1) := by
  unfold inB
  rw [decide_eq_true (show (0 : Int) ≤ k ∧ (k : Int) < 32 by omega), Int.toNat_natCast]
  rfl
theorem tmod_at (m k : Nat) : (((m : Int) / 2 ^ k).tmod 2 == 1) = decide (m / 2 ^ k % 2 = 1) := by
  have e1 : (m : Int) / 2 ^ k = ((m / 2 ^ k : Nat) : Int) := by simp
  rw [e1, show (2 : Int) = ((2 : Nat) : Int) from rfl, ← Int.ofNat_tmod, Bool.eq_iff_iff]
  simp
  omega
theorem bits_or0 (b : Nat) (h : b < 4294967296) : bits .or .u32 0 (b : Int) = (b : Int) := by
  have := (bits_nat .u32 32 (by decide) (fun n h0 h1 => by rw [IntKind.wrap_u32]; omega) 0 b (by decide) (by omega)).2
  simpa using this
theorem bits_and2 (m k : Nat) (h : m < 4294967296) (hk : k < 32) : (bits .and .u32 (m : Int) ((2 ^ k : Nat) : Int) != 0) = decide (m / 2 ^ k % 2 = 1) := by
  have hp : 2 ^ k < 4294967296 := Nat.lt_of_lt_of_le (Nat.pow_lt_pow_right (by decide) hk) (by decide)
  have e := (bits_nat .u32 32 (by decide) (fun n h0 h1 => by rw [IntKind.wrap_u32]; omega) m (2 ^ k) (by omega) (by omega)).1
  rw [e]
  have hb : (m &&& 2 ^ k).testBit k = m.testBit k := by rw [Nat.testBit_and, Nat.testBit_two_pow_self, Bool.and_true]
  rw [← Nat.testBit_eq_decide_div_mod_eq]
  cases ht : m.testBit k with
  | true =>
    rw [ht] at hb
    have : m &&& 2 ^ k ≠ 0 := fun h0 => by rw [h0] at hb; simp at hb
    rw [bne_iff_ne]
    exact_mod_cast this
  | false =>
    have : m &&& 2 ^ k = 0 := Nat.eq_of_testBit_eq fun i => by
      rw [Nat.testBit_and, Nat.testBit_two_pow, Nat.zero_testBit]
      by_cases hik : k = i
      · subst hik; rw [ht]; rfl
      · rw [decide_eq_false hik, Bool.and_false]
    rw [this]; rfl
theorem bitI_in (k : Nat) (hk : k < 32) : bitI (k : Int) = ((2 ^ k : Nat) : Int) := by
  have hp : 2 ^ k < 4294967296 := Nat.lt_of_lt_of_le (Nat.pow_lt_pow_right (by decide) hk) (by decide)
  unfold bitI
  rw [if_pos (by omega), Int.toNat_natCast]
  have : (2 : Int) ^ k = ((2 ^ k : Nat) : Int) := (Int.natCast_pow 2 k).symm
  rw [this]
  exact Int.emod_eq_of_lt (Int.natCast_nonneg _) (by generalize 2 ^ k = p at hp ⊢; omega)
theorem bitI_out (n : Int) (h : ¬ (0 ≤ n ∧ n < 32)) : bitI n = 0 := if_neg h
theorem has_in (m : Nat) (h : m < 4294967296) (n : Int) : (bits .and .u32 (m : Int) (bitI n) != 0) = inB m n := by
  by_cases hn : 0 ≤ n ∧ n < 32
  · obtain ⟨k, rfl⟩ := Int.eq_ofNat_of_zero_le hn.1
    rw [bitI_in k (by omega), inB_in m k (by omega)]
    exact bits_and2 m k h (by omega)
  · rw [bitI_out n hn, inB_out m n hn]
    have e := (bits_nat .u32 32 (by decide) (fun n h0 h1 => by rw [IntKind.wrap_u32]; omega) m 0 (by omega) (by decide)).1
    rw [Nat.and_zero] at e
    rw [show (0 : Int) = ((0 : Nat) : Int) from rfl, e]
    rfl
end Go.Proofs.YtoafpfheopgdkaaGreatDoor.Sc
namespace Go.Proofs.YtoafpfheopgdkaaGreatDoor.So
open Go.RowKit Go.Shelf Go.Maps
open Go.Proofs.YtoafpfheopgdkaaGreatDoor.Co (I64 I64_mid Pt)
open Go.Proofs.YtoafpfheopgdkaaGreatDoor.At (St bAl cell_blk blk_seen blk_free Err an wi bits_and32 bits_an32)
open Go.Proofs.YtoafpfheopgdkaaGreatDoor.Ro (RS Ents)
open Go.Proofs.YtoafpfheopgdkaaGreatDoor.Rs (SD mskP Prt Prts PRow okL fitP remP insP insr insP_rec)
theorem u64_nat (m : Int) : ∃ q : Nat, IntKind.u64.wrap m = (q : Int) := by
  have h : 0 ≤ IntKind.u64.wrap m := by
    show 0 ≤ m % _
    exact Int.emod_nonneg _ (by decide)
  exact Int.eq_ofNat_of_zero_le h
theorem rem_at (m : Int) (n : Nat) (h0 : 0 < n) : ∃ (u : Int) (k : Nat), k < n ∧ IntKind.u64.wrap m = u ∧ u.tmod (n : Int) = (k : Int) := by
  obtain ⟨q, hq⟩ := u64_nat m
  exact ⟨_, q % n, Nat.mod_lt _ h0, hq, by rw [← Int.ofNat_tmod]⟩
theorem and8 (m : Nat) (h : m < 4294967296) : bits .and .u32 (m : Int) 255 = ((m % 256 : Nat) : Int) := by
  have := bits_and32 m 255 h (by decide)
  rw [show (255 : Nat) = 2 ^ 8 - 1 from rfl, Nat.and_two_pow_sub_one_eq_mod] at this
  exact this
theorem an8 (m : Nat) (h : m < 4294967296) : bits .andNot .u32 255 (m : Int) = ((an 255 m : Nat) : Int) := bits_an32 255 m (by decide) h
def MRow (W : World) (v : Value) (ts : List Nat) : Prop := (∀ x ∈ ts, x < 4294967296) ∧ ∃ a c, v = .slice a ts.length c ∧ (ts = [] ∨ ∃ b o, a = some ⟨b, o, none⟩ ∧ ∀ (j : Nat) x, ts[j]? = some x → W.cell? ⟨b, o + j, none⟩ = some (.int .u32 (x : Int)))
theorem law_mod (m : Nat) (v : Int) : lawL (m % 256) v 8 = lawL m v 8 := by
  have G : ∀ k, k ≤ 8 → lawL (m % 256) v k = lawL m v k := fun k => by
    induction k with
    | zero => intro _; rfl
    | succ k ih =>
      intro hk
      unfold lawL
      rw [ih (by omega), show (256 : Nat) = 2 ^ 8 from rfl, Nat.testBit_mod_two_pow, decide_eq_true (show k < 8 by omega), Bool.true_and]
  exact G 8 (Nat.le_refl _)
theorem law_len (m : Nat) (v : Int) : ∀ k, (lawL m v k).length = Sc.ones k m
  | 0 => rfl
  | k + 1 => by
    unfold lawL
    rw [Sc.ones_step]
    have e : m.testBit k = decide (m / 2 ^ k % 2 = 1) := by rw [Nat.testBit_eq_decide_div_mod_eq]
    split
    · rename_i h
      rw [e] at h
      rw [List.length_append, law_len m v k, of_decide_eq_true h]
      rfl
    · rename_i h
      rw [e] at h
      have : ¬ m / 2 ^ k % 2 = 1 := fun q => h (decide_eq_true q)
      rw [law_len m v k]
      omega
def movesB : Bool := (List.range 256).all fun m => (List.range 8).all fun c => decide (Sc.ones 32 (wi m c) = Sc.ones 8 m + (if m.testBit c then 0 else 1))
theorem moves_ok : movesB = true := by kernel_rfl
theorem moves_cnt {m c : Nat} (hm : m < 256) (hc : c < 8) : Sc.ones 32 (wi m c) = Sc.ones 8 m + (if m.testBit c then 0 else 1) := by
  have h := moves_ok
  unfold movesB at h
  have h1 := List.all_eq_true.1 h m (List.mem_range.2 hm)
  have h2 := List.all_eq_true.1 h1 c (List.mem_range.2 hc)
  exact of_decide_eq_true h2
/-- A part put in and taken out again leaves what was. -/
theorem rem_ins {l : List Prt} {p : Prt} (hno : ∀ q ∈ l, q.c ≠ p.c) : remP (insP l p) p.c = l := by
  have G : ∀ l : List Prt, (∀ q ∈ l, q.c ≠ p.c) → remP (insr p l) p.c = l := fun l => by
    induction l with
    | nil => intro _; simp [insr, remP]
    | cons x l ih =>
      intro h
      have hx := h x (List.mem_cons_self ..)
      have hr : remP l p.c = l := List.filter_eq_self.2 fun q hq => by simpa using h q (List.mem_cons_of_mem _ hq)
      have i2 := ih fun q hq => h q (List.mem_cons_of_mem _ hq)
      unfold insr
      split
      · unfold remP at hr ⊢
        simp [hx, hr]
      · unfold remP at i2 ⊢
        simp [hx, i2]
  rw [insP_rec]
  exact G l hno
/-- A part taken out and put in again leaves what was. -/
theorem ins_rem {ws : List Nat} {l : List Prt} {p : Prt} (hok : okL ws l) (hp : p ∈ l) : insP (remP l p.c) p = l := by
  have hs : l.Pairwise (fun x y => x.c < y.c) := hok.1
  have hmem : ∀ x, x ∈ insP (remP l p.c) p ↔ x ∈ l := fun x => by
    rw [insP_rec, Rs.mem_insr, remP, List.mem_filter]
    constructor
    · rintro (rfl | h)
      · exact hp
      · exact h.1
    · intro h
      by_cases e : x = p
      · exact .inl e
      · refine .inr ⟨h, ?_⟩
        simp
        intro q
        have e1 := find_apart (okL_apart hok) h
        have e2 := find_apart (okL_apart hok) hp
        rw [q, e2] at e1
        exact e (by simpa using e1.symm)
  have hpos : ∀ x, x ∈ l → 0 ≤ x.c := fun x hx => (hok.2 x hx).1
  have hs2 : (insP (remP l p.c) p).Pairwise (fun x y => x.c < y.c) := by
    rw [insP_rec]
    exact Rs.insr_sorted (hok.rem p.c).1 (Rs.remP_no l p.c)
  refine ext_key (fun x => x.c.toNat) (List.Pairwise.imp_of_mem (fun {x y} hx hy h => ?_) hs2) (List.Pairwise.imp_of_mem (fun {x y} hx hy h => ?_) hs) hmem
  · have := hpos x ((hmem x).1 hx); have := hpos y ((hmem y).1 hy); omega
  · have := hpos x hx; have := hpos y hy; omega
theorem wide_small : Sc.SmallC (wideL 8) ∧ Sc.SmallQ [] := by
  refine ⟨⟨by decide, fun c hc => ?_⟩, by decide, fun c hc => by simp at hc⟩
  obtain ⟨j, hj, rfl⟩ := List.mem_map.1 hc
  have hj : j < 8 := by simpa using hj
  have : j = 0 ∨ j = 1 ∨ j = 2 ∨ j = 3 ∨ j = 4 ∨ j = 5 ∨ j = 6 ∨ j = 7 := by omega
  rcases this with rfl | rfl | rfl | rfl | rfl | rfl | rfl | rfl <;> decide
theorem aw_new {W1 w : World} {sb : Nat} {s : SD} (h : ∃ c, Sto none W1.heap.size w sb c s ∧ c.t = 0 ∧ Below W1.heap.size W1 w) : Aw W1 sb s 0 [] w := by
  obtain ⟨c, q1, q2, q3⟩ := h
  exact ⟨⟨c, q1, by omega, fun x hx => by simp at hx⟩, q3⟩
theorem aw_match2 {W1 w : World} {sb : Nat} {s : SD} {t : Nat} {fr : List (Nat × Obj)} (h : Aw W1 sb s t fr w) (a b : Nat) (ha : a < 4294967296) (hb : b < 4294967296) :
    Calls Tryz.prog 26 #[.pointer (some ⟨sb, 0, none⟩), .int .u32 (a : Int), .int .u32 (b : Int)] w fun e w' => ∃ va vc, e = .returned (.slice va (matched s a b).length vc) ∧ Ents w.heap.size w' (.slice va (matched s a b).length vc) (matched s a b) ∧ Aw W1 sb s t fr w' := by
  obtain ⟨c, e1, e2, e3⟩ := h.ex
  refine (smatch_any e1 a b ha hb).mono ?_
  rintro e w' ⟨v, rfl, q1, q2⟩
  obtain ⟨va, vc, rfl⟩ := Ents.slice q1
  exact ⟨va, vc, rfl, q1, h.later q2⟩
/-- One more is spawned, with the parts of a law. -/
theorem aw_next {W1 w w' : World} {sb : Nat} {s : SD} {t n i : Nat} {L : Nat → List Prt} {fr : List (Nat × Obj)} {Ad : Nat → Addr} (h : Aw W1 sb s t fr w) (hE : Env8 W1 Ad) (ht : t ≤ 900) (hR : Run n i L s) (hi : i < n) {v : Value} {m : Nat} {x : Int} (hL : L i = lawL m x 8) (hv : Prts w.heap.size w' v (lawL m x 8)) (hb : Below w.heap.size w w') :
    Calls Tryz.prog 18 #[.pointer (some ⟨sb, 0, none⟩), v] w' fun e w2 => e = .returned (.tuple #[.agg #[.int .i64 (i : Int), .int .i64 1], .nilIface]) ∧ ∃ s', Run n (i + 1) L s' ∧ Aw W1 sb s' (t + 1) fr w2 := by
  have hl := lawL_len m x 8
  refine (aw_spawn2 h hE ht hv hb (by omega) (by rw [hR.ws]; exact law_chk m x) (law_tick m x) (hR.split hi) (hR.zero hi)).mono ?_
  rintro e w2 ⟨rfl, q⟩
  rw [law_sort, ← hL] at q
  exact ⟨rfl, _, hR.step hi, q⟩
end Go.Proofs.YtoafpfheopgdkaaGreatDoor.So
namespace Go.Proofs.YtoafpfheopgdkaaGreatDoor.Bd
open Go.RowKit Go.Shelf Go.Maps
theorem Tryz.laidOut : laidOutB Tryz.prog = true := by kernel_rfl
theorem Tryz.size24 : 58 < Tryz.prog.types.size := of_decide_eq_true (by kernel_rfl)
theorem Tryz.wide24 : (match Tryz.prog.underlying 58 with | some (.array _ _) | some (.struct _) => true | _ => false) = true := by rw [Tryz.underlying58]
set_option maxRecDepth 100000 in
theorem keyed24 : Keyed Tryz.prog 58 := Keyed.of_law (deep_law_laid Tryz.laidOut (m := 2) (by omega) Tryz.size24 (by kernel_rfl) Tryz.wide24)
/-- An entity, as a value. -/
def entV (i g : Int) : Value := .agg #[.int .i64 i, .int .i64 g]
/-- An entity's key. -/
def kl (i g : Int) : Lit := .string (keyBytes [.int .i64 i, .int .i64 g])
def I64 (i : Int) : Prop := (Lit.int .i64 i).wf = true
theorem kl_key (i g : Int) : WideAt.IsKeyLit (kl i g) := trivial
theorem keyT24 : Tryz.prog.keyType 58 = true := by kernel_rfl
theorem size128 : Tryz.prog.types.size = 295 := by kernel_rfl
theorem keyS24 : ∃ d, Tryz.prog.types.size + 1 = d + 2 := ⟨294, congrArg (· + 1) size128⟩
theorem cells24 : Tryz.prog.cellsOf 58 = 2 := by kernel_rfl
theorem cells3 : Tryz.prog.cellsOf 3 = 1 := by kernel_rfl
theorem lits3 (d : Nat) (i : Int) (hi : I64 i) : Tryz.prog.keyLits (d + 1) 3 [.int .i64 i] = some [.int .i64 i] := by
  unfold Program.keyLits
  rw [Tryz.underlying3]
  exact if_pos ⟨rfl, hi⟩
theorem flat_lits (i g : Int) : [[Lit.int .i64 i], [Lit.int .i64 g]].flatten = [.int .i64 i, .int .i64 g] := rfl
theorem lits24 (d : Nat) (i g : Int) (hi : I64 i) (hg : I64 g) : Tryz.prog.keyLits (d + 2) 58 [.int .i64 i, .int .i64 g] = some [.int .i64 i, .int .i64 g] := by
  unfold Program.keyLits
  rw [Tryz.underlying58]
  refine (if_pos ⟨by rw [cells24]; rfl, by kernel_rfl⟩).trans ?_
  simp only [List.mapM_cons, List.mapM_nil, cells3, List.drop_zero, List.drop_succ_cons, List.take_succ_cons, List.take_zero, lits3 d i hi, lits3 d g hg]
  rfl
theorem key_ent (i g : Int) (hi : I64 i) (hg : I64 g) : keyOf Tryz.prog 58 (entV i g) = some (kl i g) := by
  obtain ⟨d, hd⟩ := keyS24
  unfold keyOf
  rw [Tryz.underlying58, hd]
  have hf : (entV i g).formed Tryz.prog 58 = true := by
    unfold entV Value.formed
    rw [Tryz.underlying58, cells24]
    rfl
  have hc : (entV i g).cells.toList = [.int .i64 i, .int .i64 g] := rfl
  refine (if_pos (by rw [keyT24, hf]; rfl)).trans ?_
  rw [hc, lits24 d i g hi hg]
  rfl
theorem ent_inj {i g i' g' : Int} (h : entV i g = entV i' g') : i = i' ∧ g = g' := by
  unfold entV at h
  simpa using h
theorem kl_inj {i g i' g' : Int} (hi : I64 i) (hg : I64 g) (hi' : I64 i') (hg' : I64 g') (h : kl i g = kl i' g') : i = i' ∧ g = g' :=
  ent_inj (keyed24.inj (key_ent i g hi hg) (h ▸ key_ent i' g' hi' hg'))
theorem I64_small {n : Int} (h0 : 0 ≤ n) (h1 : n ≤ 1000000) : I64 n := by
  unfold I64 Lit.wf
  simp [IntKind.min, IntKind.max, IntKind.signed, IntKind.bits]
  omega
theorem I64_mid {n : Int} (h0 : -1000000 ≤ n) (h1 : n ≤ 2147483648) : I64 n := by
  unfold I64 Lit.wf
  simp [IntKind.min, IntKind.max, IntKind.signed, IntKind.bits]
  omega
theorem keyed3 : Keyed Tryz.prog 3 := int_keyed Tryz.underlying3
theorem zero3 (w : World) : (zeroValue 3).run Tryz.prog w = .ok (.int .i64 0) w := by kernel_rfl
theorem zeroE (w : World) : (zeroValue 58).run Tryz.prog w = .ok (entV 0 0) w := by kernel_rfl
theorem key_int (i : Int) (h : I64 i) : keyOf Tryz.prog 3 (.int .i64 i) = some (.int .i64 i) := keyOf_int_mk Tryz.underlying3 h
theorem isKeyI (i : Int) : WideAt.IsKeyLit (.int .i64 i) := trivial
theorem key_ne {i j : Int} (h : i ≠ j) : (Lit.int .i64 i) ≠ .int .i64 j := fun e => h (by simpa using e)
/-- Numbers with their owners. -/
abbrev Prs := List (Int × Int × Int)
def who (l : Prs) (id : Int) : Option (Int × Int) := (l.find? fun x => x.1 == id).map (·.2)
def num (l : Prs) (e : Int × Int) : Option Int := (l.find? fun x => x.2 == e).map (·.1)
/-- A pair more, by rising numbers. -/
def ins (p : Int × Int × Int) : Prs → Prs
  | [] => [p]
  | x :: l => if p.1 < x.1 then p :: x :: l else x :: ins p l
def del (id : Int) (l : Prs) : Prs := l.filter fun x => !(x.1 == id)
/-- Nobody has two numbers, no number two owners; numbers rise. -/
structure okP (n : Int) (l : Prs) : Prop where
  rise : l.Pairwise (fun x y => x.1 < y.1)
  one : l.Pairwise (fun x y => x.2 ≠ y.2)
  low : ∀ x ∈ l, 1 ≤ x.1 ∧ x.1 < n
  i64 : ∀ x ∈ l, I64 x.2.1 ∧ I64 x.2.2
  next : 1 ≤ n ∧ n ≤ 1073741825
theorem okP.nil : okP 1 [] := ⟨.nil, .nil, fun x hx => by simp at hx, fun x hx => by simp at hx, by omega⟩
theorem mem_ins {p x : Int × Int × Int} : ∀ {l : Prs}, x ∈ ins p l ↔ x = p ∨ x ∈ l
  | [] => by simp [ins]
  | y :: l => by
    unfold ins
    split
    · simp
    · rw [List.mem_cons, mem_ins, List.mem_cons]
      constructor
      · rintro (h | h | h)
        · exact .inr (.inl h)
        · exact .inl h
        · exact .inr (.inr h)
      · rintro (h | h | h)
        · exact .inr (.inl h)
        · exact .inl h
        · exact .inr (.inr h)
theorem ins_len (p : Int × Int × Int) : ∀ l : Prs, (ins p l).length = l.length + 1
  | [] => rfl
  | y :: l => by
    unfold ins
    split
    · simp
    · simp [ins_len p l]
theorem ins_rise {p : Int × Int × Int} : ∀ {l : Prs}, l.Pairwise (fun x y => x.1 < y.1) → (∀ x ∈ l, x.1 ≠ p.1) → (ins p l).Pairwise (fun x y => x.1 < y.1)
  | [], _, _ => by simp [ins]
  | y :: l, h, hn => by
    have h1 := List.pairwise_cons.1 h
    have hy := hn y (List.mem_cons_self ..)
    unfold ins
    split
    · rename_i hlt
      refine List.pairwise_cons.2 ⟨fun x hx => ?_, h⟩
      rcases List.mem_cons.1 hx with rfl | hx
      · exact hlt
      · have := h1.1 x hx; omega
    · rename_i hlt
      refine List.pairwise_cons.2 ⟨fun x hx => ?_, ins_rise h1.2 fun x hx => hn x (List.mem_cons_of_mem _ hx)⟩
      rcases mem_ins.1 hx with rfl | hx
      · omega
      · exact h1.1 x hx
theorem ins_one {p : Int × Int × Int} : ∀ {l : Prs}, l.Pairwise (fun x y => x.2 ≠ y.2) → (∀ x ∈ l, x.2 ≠ p.2) → (ins p l).Pairwise (fun x y => x.2 ≠ y.2)
  | [], _, _ => by simp [ins]
  | y :: l, h, hn => by
    have h1 := List.pairwise_cons.1 h
    have hy := hn y (List.mem_cons_self ..)
    unfold ins
    split
    · refine List.pairwise_cons.2 ⟨fun x hx => ?_, h⟩
      exact fun e => hn x hx e.symm
    · refine List.pairwise_cons.2 ⟨fun x hx => ?_, ins_one h1.2 fun x hx => hn x (List.mem_cons_of_mem _ hx)⟩
      rcases mem_ins.1 hx with rfl | hx
      · exact hy
      · exact h1.1 x hx
theorem find_iff {α : Type} [BEq α] [LawfulBEq α] {l : Prs} (f : Int × Int × Int → α) (hp : l.Pairwise (fun x y => f x ≠ f y)) (a : α) (x : Int × Int × Int) : l.find? (fun y => f y == a) = some x ↔ x ∈ l ∧ f x = a := by
  induction l with
  | nil => simp
  | cons y l ih =>
    have h1 := List.pairwise_cons.1 hp
    rw [List.find?_cons]
    by_cases e : f y = a
    · have : (f y == a) = true := by simpa using e
      rw [this]
      simp only [Option.some.injEq, List.mem_cons]
      constructor
      · rintro rfl; exact ⟨.inl rfl, e⟩
      · rintro ⟨rfl | hx, h2⟩
        · rfl
        · exact absurd (e.trans h2.symm) (h1.1 x hx)
    · have : (f y == a) = false := by simpa using e
      rw [this]
      simp only [List.mem_cons]
      rw [ih h1.2]
      constructor
      · rintro ⟨h2, h3⟩; exact ⟨.inr h2, h3⟩
      · rintro ⟨rfl | hx, h2⟩
        · exact absurd h2 e
        · exact ⟨hx, h2⟩
section
variable {n : Int} {l : Prs}
theorem okP.who (h : okP n l) (id : Int) (e : Int × Int) : Bd.who l id = some e ↔ (id, e) ∈ l := by
  unfold Bd.who
  rw [Option.map_eq_some_iff]
  constructor
  · rintro ⟨x, hx, rfl⟩
    obtain ⟨h1, rfl⟩ := (find_iff (fun x => x.1) (h.rise.imp fun q e => by omega) id x).1 hx
    exact h1
  · intro h1
    exact ⟨(id, e), (find_iff (fun x => x.1) (h.rise.imp fun q e => by omega) id (id, e)).2 ⟨h1, rfl⟩, rfl⟩
theorem okP.num (h : okP n l) (id : Int) (e : Int × Int) : Bd.num l e = some id ↔ (id, e) ∈ l := by
  unfold Bd.num
  rw [Option.map_eq_some_iff]
  constructor
  · rintro ⟨x, hx, rfl⟩
    obtain ⟨h1, rfl⟩ := (find_iff (fun x => x.2) h.one e x).1 hx
    exact h1
  · intro h1
    exact ⟨(id, e), (find_iff (fun x => x.2) h.one e (id, e)).2 ⟨h1, rfl⟩, rfl⟩
theorem okP.add (h : okP n l) {m : Int} (hm : n ≤ m ∧ m ≤ 1073741825) {id i g : Int} (hid : 1 ≤ id ∧ id < m) (hi : I64 i) (hg : I64 g) (h1 : Bd.who l id = none) (h2 : Bd.num l (i, g) = none) : okP m (ins (id, i, g) l) where
  rise := ins_rise h.rise fun x hx e => by
    have e : x.1 = id := e
    have := (h.who id x.2).2 (by rw [← e]; exact hx)
    rw [h1] at this
    cases this
  one := ins_one h.one fun x hx e => by
    have := (h.num x.1 (i, g)).2 (by have : x.2 = (i, g) := e; rw [← this]; exact hx)
    rw [h2] at this
    cases this
  low := fun x hx => by
    rcases mem_ins.1 hx with rfl | hx
    · exact hid
    · have := h.low x hx; omega
  i64 := fun x hx => by
    rcases mem_ins.1 hx with rfl | hx
    · exact ⟨hi, hg⟩
    · exact h.i64 x hx
  next := by have := h.next; omega
theorem okP.del (h : okP n l) (id : Int) : okP n (Bd.del id l) where
  rise := h.rise.filter _
  one := h.one.filter _
  low := fun x hx => h.low x (List.mem_filter.1 hx).1
  i64 := fun x hx => h.i64 x (List.mem_filter.1 hx).1
  next := h.next
theorem okP.turn (h : okP n l) {m : Int} (hm : 1 ≤ m ∧ m ≤ 1073741825) (ha : ∀ x ∈ l, x.1 < m) : okP m l := ⟨h.rise, h.one, fun x hx => ⟨(h.low x hx).1, ha x hx⟩, h.i64, hm⟩
theorem mem_del {id : Int} {x : Int × Int × Int} : x ∈ Bd.del id l ↔ x ∈ l ∧ x.1 ≠ id := by
  unfold Bd.del
  rw [List.mem_filter]
  simp
theorem opt_ext {α : Type} {a b : Option α} (h : ∀ x, a = some x ↔ b = some x) : a = b := by
  cases a with
  | none =>
    cases b with
    | none => rfl
    | some y => exact absurd ((h y).2 rfl) (by simp)
  | some x => exact ((h x).1 rfl).symm
theorem okP.who_add (h : okP n l) {m id i g : Int} (hk : okP m (ins (id, i, g) l)) (h1 : Bd.who l id = none) (id' : Int) : Bd.who (ins (id, i, g) l) id' = if id' = id then some (i, g) else Bd.who l id' := by
  refine opt_ext fun x => ?_
  rw [hk.who, mem_ins]
  by_cases e : id' = id
  · subst e
    rw [if_pos rfl]
    constructor
    · rintro (h2 | h2)
      · simp only [Prod.mk.injEq, true_and] at h2
        rw [h2]
      · have := (h.who id' x).2 h2
        rw [h1] at this
        cases this
    · intro h2
      obtain rfl : (i, g) = x := by simpa using h2
      exact .inl rfl
  · rw [if_neg e, h.who]
    constructor
    · rintro (h2 | h2)
      · simp only [Prod.mk.injEq] at h2
        exact absurd h2.1 e
      · exact h2
    · exact .inr
theorem okP.num_add (h : okP n l) {m id i g : Int} (hk : okP m (ins (id, i, g) l)) (h1 : Bd.num l (i, g) = none) (e' : Int × Int) : Bd.num (ins (id, i, g) l) e' = if e' = (i, g) then some id else Bd.num l e' := by
  refine opt_ext fun x => ?_
  rw [hk.num, mem_ins]
  by_cases e : e' = (i, g)
  · subst e
    rw [if_pos rfl]
    constructor
    · rintro (h2 | h2)
      · simp only [Prod.mk.injEq, and_true] at h2
        rw [h2]
      · have := (h.num x (i, g)).2 h2
        rw [h1] at this
        cases this
    · intro h2
      obtain rfl : id = x := by simpa using h2
      exact .inl rfl
  · rw [if_neg e, h.num]
    constructor
    · rintro (h2 | h2)
      · simp only [Prod.mk.injEq] at h2
        exact absurd h2.2 e
      · exact h2
    · exact .inr
theorem okP.who_del (h : okP n l) (id id' : Int) : Bd.who (Bd.del id l) id' = if id' = id then none else Bd.who l id' := by
  refine opt_ext fun x => ?_
  rw [(h.del id).who, mem_del]
  by_cases e : id' = id
  · rw [if_pos e]
    simp [e]
  · rw [if_neg e, h.who]
    simp [e]
theorem okP.num_del (h : okP n l) {id : Int} {e : Int × Int} (hw : Bd.who l id = some e) (e' : Int × Int) : Bd.num (Bd.del id l) e' = if e' = e then none else Bd.num l e' := by
  have hm := (h.who id e).1 hw
  refine opt_ext fun x => ?_
  rw [(h.del id).num, mem_del]
  by_cases q : e' = e
  · rw [if_pos q]
    subst q
    constructor
    · rintro ⟨h1, h2⟩
      have e1 := (h.num x e').2 h1
      have e2 := (h.num id e').2 hm
      rw [e1] at e2
      exact absurd (by simpa using e2) h2
    · intro h1; cases h1
  · rw [if_neg q, h.num]
    constructor
    · exact fun h1 => h1.1
    · intro h1
      refine ⟨h1, fun h2 => q ?_⟩
      have h2 : x = id := h2
      subst h2
      have e1 := (h.who x e').2 h1
      rw [hw] at e1
      simpa using e1.symm
theorem del_len (h : okP n l) {id : Int} {e : Int × Int} (hw : Bd.who l id = some e) : (Bd.del id l).length + 1 = l.length := by
  have hm := (h.who id e).1 hw
  have hp := h.rise
  clear hw h
  induction l with
  | nil => simp at hm
  | cons y l ih =>
    have h1 := List.pairwise_cons.1 hp
    unfold Bd.del
    rcases List.mem_cons.1 hm with rfl | hm
    · have : l.filter (fun x => !(x.1 == id)) = l := List.filter_eq_self.2 fun x hx => by
        have := h1.1 x hx
        simp
        omega
      simp [this]
    · have := h1.1 _ hm
      have i2 := ih hm h1.2
      unfold Bd.del at i2
      have this : y.1 < id := this
      have e1 : (!(y.1 == id)) = true := by simp; omega
      simp only [List.filter_cons, e1, if_true, List.length_cons]
      omega
theorem okP.few (h : okP n l) : l.length ≤ 1073741824 := by
  have hn := h.next
  have hnd : (l.map fun x => x.1.toNat).Nodup := by
    rw [List.Nodup, List.pairwise_map]
    refine List.Pairwise.imp_of_mem (fun {x y} hx hy q e => ?_) h.rise
    have := (h.low x hx).1
    omega
  have := hnd.length_le_of_subset (l₂ := List.range' 1 1073741824) fun x hx => by
    obtain ⟨y, hy, rfl⟩ := List.mem_map.1 hx
    have := h.low y hy
    rw [List.mem_range'_1]
    omega
  simpa using this
end
end Go.Proofs.YtoafpfheopgdkaaGreatDoor.Bd
namespace Go.Proofs.YtoafpfheopgdkaaGreatDoor.Bd
open Go.RowKit Go.Shelf Go.Maps
/-- Outside S all lies as it lay. -/
structure St (S : Nat → Prop) (W W' : World) : Prop where
  os : W'.os = W.os
  tape : W'.tape = W.tape
  output : W'.output = W.output
  size : W.heap.size ≤ W'.heap.size
  block : ∀ k, k < W.heap.size → ¬ S k → W'.heap[k]? = W.heap[k]?
theorem St.refl (S : Nat → Prop) (W : World) : St S W W := ⟨rfl, rfl, rfl, Nat.le_refl _, fun _ _ _ => rfl⟩
theorem St.trans {S T : Nat → Prop} {a b c : World} (h : St S a b) (k : St T b c) (hs : ∀ x, x < a.heap.size → T x → S x) : St S a c :=
  ⟨k.os.trans h.os, k.tape.trans h.tape, k.output.trans h.output, Nat.le_trans h.size k.size, fun x hx hn => (k.block x (Nat.lt_of_lt_of_le hx h.size) (fun q => hn (hs x hx q))).trans (h.block x hx hn)⟩
theorem St.of_below {S : Nat → Prop} {a b : World} (h : Below a.heap.size a b) : St S a b := ⟨h.os, h.tape, h.output, h.size, fun k hk _ => h.block k hk⟩
theorem St.of_grown {S : Nat → Prop} {a b : World} {row : Option Nat} (h : a.grownBy b row) (hS : ∀ k, row = some k → S k) : St S a b :=
  ⟨h.os, h.tape, h.output, h.size, fun k hk hn => h.block k hk (fun e => hn (hS k e.symm))⟩
theorem St.below {S : Nat → Prop} {a b : World} {B : Nat} (h : St S a b) (hS : ∀ k, S k → B ≤ k) (hB : B ≤ a.heap.size) : Below B a b :=
  ⟨h.os, h.tape, h.output, h.size, fun k hk => h.block k (by omega) (fun q => by have := hS k q; omega)⟩
theorem St.setCell {S : Nat → Prop} {a : World} {p : Addr} (v : Value) (hp : S p.block) : St S a (a.setCell p v) :=
  ⟨rfl, rfl, rfl, by simp, fun k _ hn => Below.heap_setCell _ _ _ _ (fun e => hn (e ▸ hp))⟩
theorem St.at {S : Nat → Prop} {W W' : World} {b : Nat} {o : Obj} (hs : St S W W') (h : W.heap[b]? = some o) (hn : ¬ S b) : W'.heap[b]? = some o := (hs.block b (Array.getElem?_eq_some_iff.1 h).1 hn).trans h
theorem bAl (W : World) (o : Obj) : Below W.heap.size W (W.alloc o) := (Below.refl _ _).alloc (Nat.le_refl _) _
theorem cell_blk {W : World} {b j : Nat} {cs : Array Value} {e : TypeId} {u : Value} (h : W.heap[b]? = some (.cells cs e (0, 0))) (hj : cs[j]? = some u) : W.cell? ⟨b, j, none⟩ = some u := by
  rw [cell_of_row _ _ j _ e (0, 0) h]; exact hj
theorem blk_free {W : World} {b : Nat} {cs : Array Value} {e : TypeId} (h : W.heap[b]? = some (.cells cs e (0, 0))) (j : Nat) : W.frozen? ⟨b, j, none⟩ = false := by
  unfold World.frozen?
  rw [show (⟨b, j, none⟩ : Addr).block = b from rfl, h]
  simp
theorem blk_seen {W W' : World} {B b : Nat} {o : Obj} (hb : Below B W W') (hB : W.heap.size ≤ B) (h : W.heap[b]? = some o) : W'.heap[b]? = some o := (hb.block b (Nat.lt_of_lt_of_le (Array.getElem?_eq_some_iff.1 h).1 hB)).trans h
theorem seen {B : Nat} {W W' : World} (hb : Below B W W') (hB : W.heap.size ≤ B) {p : Addr} {u : Value} (h : W.cell? p = some u) : W'.cell? p = some u := (hb.cell (p := p) (Nat.lt_of_lt_of_le (World.block_lt_of_cell? W p h) hB)).trans h
def entO : Option (Int × Int) → Int × Int
  | none => (0, 0)
  | some e => e
def entD (e : Int × Int) : DataW Unit := .agg [.lit (.int .i64 e.1), .lit (.int .i64 e.2)]
theorem entD_inj {x y : Int × Int} (h : entD x = entD y) : x = y := by
  unfold entD at h
  simp at h
  exact Prod.ext h.1 h.2
/-- How an entity reads. -/
def entElem : Value → Option (DataW Unit × List MemPlace)
  | .agg a => match a.toList with
    | [.int .i64 i, .int .i64 g] => some (entD (i, g), [])
    | _ => none
  | _ => none
theorem entElem_mk (i g : Int) : entElem (entV i g) = some (entD (i, g), []) := rfl
theorem entElem_inv {v : Value} {y : DataW Unit × List MemPlace} (h : entElem v = some y) : ∃ i g, v = entV i g ∧ y = (entD (i, g), []) := by
  unfold entElem at h
  split at h
  · rename_i a
    split at h
    · rename_i i g he
      cases h
      refine ⟨i, g, ?_, rfl⟩
      unfold entV
      obtain ⟨l⟩ := a
      simp at he
      rw [he]
    · cases h
  · cases h
/-- What the map of owners says. -/
def H1 (D : DataW Unit) (l : Prs) : Prop := (∀ id, I64 id → Maps.has D (.int .i64 id) = (who l id).isSome ∧ D.atKey (.int .i64 id) (entD (0, 0)) = entD (entO (who l id))) ∧ Maps.size D = l.length
/-- What the map of numbers says. -/
def H2 (D : DataW Unit) (l : Prs) : Prop := (∀ i g, I64 i → I64 g → Maps.has D (kl i g) = (num l (i, g)).isSome ∧ D.atKey (kl i g) (.lit (.int .i64 0)) = .lit (.int .i64 ((num l (i, g)).getD 0))) ∧ Maps.size D = l.length
/-- The map of owners, in memory. -/
def M1 (W : World) (mb : Nat) (l : Prs) : Prop := ∃ D, W.ownsMap Tryz.prog 3 entElem mb (Maps.size D) D ∧ H1 D l
def M2 (W : World) (mb : Nat) (l : Prs) : Prop := ∃ D, W.ownsMap Tryz.prog 58 (plainElem Tryz.prog 3) mb (Maps.size D) D ∧ H2 D l
theorem own_size {k : TypeId} {R : Value → Option (DataW Unit × List MemPlace)} {W : World} {mb n : Nat} {D : DataW Unit} (h : W.ownsMap Tryz.prog k R mb n D) : W.ownsMap Tryz.prog k R mb (Maps.size D) D := by
  obtain ⟨es, clock, hb, F, _, rfl⟩ := h
  exact ⟨es, clock, hb, F, by simp [Maps.size, length_sorted], rfl⟩
theorem turned_st {W W' : World} {mb : Nat} (h : W.mapTurned W' mb) : St (fun k => k = mb) W W' := St.of_grown h.grown fun k e => by simpa using e.symm
section
variable {W W' : World} {mb : Nat} {l : Prs} {n : Int} {t e : TypeId}
theorem M1.lt (h : M1 W mb l) : mb < W.heap.size := by obtain ⟨D, h1, -⟩ := h; exact h1.lt
theorem M2.lt (h : M2 W mb l) : mb < W.heap.size := by obtain ⟨D, h1, -⟩ := h; exact h1.lt
theorem M1.kept {T : Nat → Prop} (h : M1 W mb l) (hs : St T W W') (hn : ¬ T mb) : M1 W' mb l := by
  obtain ⟨D, ⟨es, cl, hb, q⟩, h2⟩ := h
  exact ⟨D, ⟨es, cl, hs.at hb hn, q⟩, h2⟩
theorem M2.kept {T : Nat → Prop} (h : M2 W mb l) (hs : St T W W') (hn : ¬ T mb) : M2 W' mb l := by
  obtain ⟨D, ⟨es, cl, hb, q⟩, h2⟩ := h
  exact ⟨D, ⟨es, cl, hs.at hb hn, q⟩, h2⟩
theorem M1.obj (h : M1 W mb l) : ∃ es cl, W.heap[mb]? = some (.map es cl) := by
  obtain ⟨D, ⟨es, cl, hb, q⟩, h2⟩ := h
  exact ⟨es, cl, hb⟩
theorem M2.obj (h : M2 W mb l) : ∃ es cl, W.heap[mb]? = some (.map es cl) := by
  obtain ⟨D, ⟨es, cl, hb, q⟩, h2⟩ := h
  exact ⟨es, cl, hb⟩
theorem m1_made (W : World) : M1 (W.alloc (.map #[] 0)) W.heap.size [] :=
  ⟨.map [], World.ownsMap_made W Tryz.prog 3 entElem, fun _ _ => ⟨rfl, rfl⟩, rfl⟩
theorem m2_made (W : World) : M2 (W.alloc (.map #[] 0)) W.heap.size [] :=
  ⟨.map [], World.ownsMap_made W Tryz.prog 58 (plainElem Tryz.prog 3), fun _ _ _ _ => ⟨rfl, rfl⟩, rfl⟩
theorem M1.look (h : M1 W mb l) (ht : Tryz.prog.underlying t = some (.map 3 58)) (id : Int) (hi : I64 id) :
    (Instr.lookup t (.map (some mb)) (.int .i64 id) true).run Tryz.prog W = .ok (.tuple #[.agg #[.int .i64 (entO (who l id)).1, .int .i64 (entO (who l id)).2], .bool (who l id).isSome]) W := by
  obtain ⟨D, h1, hH⟩ := h
  obtain ⟨v, ps, hr, hv⟩ := h1.look_ok keyed3 ht (zeroE W) (entElem_mk 0 0) (key_int id hi)
  obtain ⟨i, g, rfl, e2⟩ := entElem_inv hv
  rw [(hH.1 id hi).2] at e2
  simp only [Prod.mk.injEq] at e2
  have e3 := entD_inj e2.1
  rw [hr, (hH.1 id hi).1, e3]
  rfl
theorem M2.look (h : M2 W mb l) (ht : Tryz.prog.underlying t = some (.map 58 3)) (i g : Int) (hi : I64 i) (hg : I64 g) :
    (Instr.lookup t (.map (some mb)) (.agg #[.int .i64 i, .int .i64 g]) true).run Tryz.prog W = .ok (.tuple #[.int .i64 ((num l (i, g)).getD 0), .bool (num l (i, g)).isSome]) W := by
  obtain ⟨D, h1, hH⟩ := h
  obtain ⟨v, ps, hr, hv⟩ := h1.look_ok keyed24 ht (zero3 W) (plainElem_int Tryz.underlying3 (show (Lit.int .i64 0).wf = true by decide)) (key_ent i g hi hg)
  obtain ⟨a, rfl, e2, -⟩ := plainElem_int_inv Tryz.underlying3 hv
  rw [(hH.1 i g hi hg).2] at e2
  simp only [Prod.mk.injEq, DataW.lit.injEq, Lit.int.injEq, true_and] at e2
  unfold entV at hr
  rw [hr, (hH.1 i g hi hg).1, e2.1]
theorem M1.len (h : M1 W mb l) (ht : Tryz.prog.underlying t = some (.map 3 e)) (ty : TypeId) : (Builtin.len_ #[t] ty #[.map (some mb)]).run Tryz.prog W = .ok (.int .i64 (l.length : Int)) W := by
  obtain ⟨D, h1, hH⟩ := h
  rw [← hH.2]
  exact h1.len ht ty
theorem M1.store {m : Int} {id i g : Int} (h : M1 W mb l) (hok : okP n l) (hok2 : okP m (ins (id, i, g) l)) (hw : who l id = none) (ht : Tryz.prog.underlying t = some (.map 3 e)) (hid : I64 id) :
    ∃ w', (Instr.mapUpdate t (.map (some mb)) (.int .i64 id) (.agg #[.int .i64 i, .int .i64 g])).run Tryz.prog W = .ok () w' ∧ M1 w' mb (ins (id, i, g) l) ∧ St (fun k => k = mb) W w' := by
  obtain ⟨D, h1, hH⟩ := h
  have hs := hok.few
  obtain ⟨w', hr, h2, h3⟩ := h1.store keyed3 ht (by unfold maxLen; rw [hH.2]; omega) (key_int id hid) (entElem_mk i g)
  have hD := h1.tidy keyed3
  refine ⟨w', hr, ⟨_, own_size h2, fun id' hi' => ?_, ?_⟩, turned_st h3⟩
  · rw [hok.who_add hok2 hw]
    by_cases q : id' = id
    · subst q
      rw [if_pos rfl]
      exact ⟨Maps.has_put_same hD.isMap (isKeyI _) _, Maps.atKey_put_same hD.isMap (isKeyI _) _ _⟩
    · rw [if_neg q, Maps.has_put_other (key_ne q), Maps.atKey_put_other (key_ne q)]
      exact hH.1 id' hi'
  · rw [Maps.size_put hD, (hH.1 id hid).1, hw, ins_len, hH.2]
    simp
theorem M2.store {m : Int} {id i g : Int} (h : M2 W mb l) (hok : okP n l) (hok2 : okP m (ins (id, i, g) l)) (hw : num l (i, g) = none) (ht : Tryz.prog.underlying t = some (.map 58 e)) (hid : I64 id) (hi : I64 i) (hg : I64 g) :
    ∃ w', (Instr.mapUpdate t (.map (some mb)) (.agg #[.int .i64 i, .int .i64 g]) (.int .i64 id)).run Tryz.prog W = .ok () w' ∧ M2 w' mb (ins (id, i, g) l) ∧ St (fun k => k = mb) W w' := by
  obtain ⟨D, h1, hH⟩ := h
  have hs := hok.few
  obtain ⟨w', hr, h2, h3⟩ := h1.store keyed24 ht (by unfold maxLen; rw [hH.2]; omega) (key_ent i g hi hg) (plainElem_int Tryz.underlying3 hid)
  have hD := h1.tidy keyed24
  refine ⟨w', hr, ⟨_, own_size h2, fun i' g' hi' hg' => ?_, ?_⟩, turned_st h3⟩
  · rw [hok.num_add hok2 hw]
    by_cases q : ((i', g') : Int × Int) = (i, g)
    · rw [if_pos q]
      simp only [Prod.mk.injEq] at q
      obtain ⟨rfl, rfl⟩ := q
      exact ⟨Maps.has_put_same hD.isMap (kl_key _ _) _, Maps.atKey_put_same hD.isMap (kl_key _ _) _ _⟩
    · have q' : kl i' g' ≠ kl i g := fun e => q (by obtain ⟨rfl, rfl⟩ := kl_inj hi' hg' hi hg e; rfl)
      rw [if_neg q, Maps.has_put_other q', Maps.atKey_put_other q']
      exact hH.1 i' g' hi' hg'
  · rw [Maps.size_put hD, (hH.1 i g hi hg).1, hw, ins_len, hH.2]
    simp
theorem M1.drop {id : Int} {x : Int × Int} (h : M1 W mb l) (hok : okP n l) (hw : who l id = some x) (ht : Tryz.prog.underlying t = some (.map 3 e)) (hid : I64 id) (ty : TypeId) :
    ∃ w', (Builtin.delete_ #[t, 3] ty #[.map (some mb), .int .i64 id]).run Tryz.prog W = .ok (.tuple #[]) w' ∧ M1 w' mb (del id l) ∧ St (fun k => k = mb) W w' := by
  obtain ⟨D, h1, hH⟩ := h
  obtain ⟨w', hr, h2, h3⟩ := h1.drop keyed3 ht (key_int id hid) ty
  have hD := h1.tidy keyed3
  refine ⟨w', hr, ⟨_, own_size h2, fun id' hi' => ?_, ?_⟩, turned_st h3⟩
  · rw [hok.who_del]
    by_cases q : id' = id
    · subst q
      rw [if_pos rfl]
      exact ⟨Maps.has_del_same, Maps.atKey_del_same _⟩
    · rw [if_neg q, Maps.has_del_other (key_ne q), Maps.atKey_del_other (key_ne q)]
      exact hH.1 id' hi'
  · have e1 := Maps.size_del (k := .int .i64 id) hD
    rw [(hH.1 id hid).1, hw, hH.2] at e1
    have e2 := del_len hok hw
    simp at e1
    omega
theorem M2.drop {id i g : Int} (h : M2 W mb l) (hok : okP n l) (hw : who l id = some (i, g)) (ht : Tryz.prog.underlying t = some (.map 58 e)) (hi : I64 i) (hg : I64 g) (ty : TypeId) :
    ∃ w', (Builtin.delete_ #[t, 58] ty #[.map (some mb), .agg #[.int .i64 i, .int .i64 g]]).run Tryz.prog W = .ok (.tuple #[]) w' ∧ M2 w' mb (del id l) ∧ St (fun k => k = mb) W w' := by
  obtain ⟨D, h1, hH⟩ := h
  obtain ⟨w', hr, h2, h3⟩ := h1.drop keyed24 ht (key_ent i g hi hg) ty
  have hD := h1.tidy keyed24
  refine ⟨w', hr, ⟨_, own_size h2, fun i' g' hi' hg' => ?_, ?_⟩, turned_st h3⟩
  · rw [hok.num_del hw]
    by_cases q : ((i', g') : Int × Int) = (i, g)
    · rw [if_pos q]
      simp only [Prod.mk.injEq] at q
      obtain ⟨rfl, rfl⟩ := q
      exact ⟨Maps.has_del_same, Maps.atKey_del_same _⟩
    · have q' : kl i' g' ≠ kl i g := fun e => q (by obtain ⟨rfl, rfl⟩ := kl_inj hi' hg' hi hg e; rfl)
      rw [if_neg q, Maps.has_del_other q', Maps.atKey_del_other q']
      exact hH.1 i' g' hi' hg'
  · have e1 := Maps.size_del (k := kl i g) hD
    rw [(hH.1 i g hi hg).1, (hok.num id (i, g)).2 ((hok.who id (i, g)).1 hw), hH.2] at e1
    have e2 := del_len hok hw
    simp at e1
    omega
end
/-- Badges in memory. -/
structure Bg (B : Nat) (W : World) (bb ob nb : Nat) (n : Int) (l : Prs) : Prop where
  box : W.heap[bb]? = some (.cells #[.map (some ob), .map (some nb), .int .i64 n] 100 (0, 0))
  m1 : M1 W ob l
  m2 : M2 W nb l
  ok : okP n l
  low : B ≤ bb ∧ B ≤ ob ∧ B ≤ nb
  ne : ob ≠ nb
def Ft (bb ob nb k : Nat) : Prop := k = bb ∨ k = ob ∨ k = nb
section
variable {B : Nat} {W W' : World} {bb ob nb : Nat} {n : Int} {l : Prs}
theorem Bg.ne1 (h : Bg B W bb ob nb n l) : bb ≠ ob := fun q => by
  obtain ⟨es, cl, hb⟩ := h.m1.obj
  have := h.box
  rw [q, hb] at this
  cases this
theorem Bg.ne2 (h : Bg B W bb ob nb n l) : bb ≠ nb := fun q => by
  obtain ⟨es, cl, hb⟩ := h.m2.obj
  have := h.box
  rw [q, hb] at this
  cases this
theorem Bg.kept {T : Nat → Prop} (h : Bg B W bb ob nb n l) (hs : St T W W') (hn : ∀ k, Ft bb ob nb k → ¬ T k) : Bg B W' bb ob nb n l :=
  ⟨hs.at h.box (hn _ (.inl rfl)), h.m1.kept hs (hn _ (.inr (.inl rfl))), h.m2.kept hs (hn _ (.inr (.inr rfl))), h.ok, h.low, h.ne⟩
theorem Bg.later (h : Bg B W bb ob nb n l) (hb : Below W.heap.size W W') : Bg B W' bb ob nb n l := h.kept (T := fun _ => False) (St.of_below hb) fun _ _ q => q
theorem Bg.lt (h : Bg B W bb ob nb n l) (k : Nat) (hk : Ft bb ob nb k) : B ≤ k ∧ k < W.heap.size := by
  rcases hk with rfl | rfl | rfl
  · exact ⟨h.low.1, (Array.getElem?_eq_some_iff.1 h.box).1⟩
  · exact ⟨h.low.2.1, h.m1.lt⟩
  · exact ⟨h.low.2.2, h.m2.lt⟩
theorem Bg.c0 (h : Bg B W bb ob nb n l) : W.cell? ⟨bb, 0, none⟩ = some (.map (some ob)) := cell_blk h.box rfl
theorem Bg.c1 (h : Bg B W bb ob nb n l) : W.cell? ⟨bb, 1, none⟩ = some (.map (some nb)) := cell_blk h.box rfl
theorem Bg.c2 (h : Bg B W bb ob nb n l) : W.cell? ⟨bb, 2, none⟩ = some (.int .i64 n) := cell_blk h.box rfl
theorem Bg.lower {B' : Nat} (h : Bg B W bb ob nb n l) (hB : B' ≤ B) : Bg B' W bb ob nb n l := ⟨h.box, h.m1, h.m2, h.ok, by have := h.low; omega, h.ne⟩
end
end Go.Proofs.YtoafpfheopgdkaaGreatDoor.Bd
namespace Go.Proofs.YtoafpfheopgdkaaGreatDoor.Bd
open Go.RowKit Go.Shelf Go.Maps
def five : List Nat := [1, 2, 6, 7, 9]
/-- Five sentinels lie where the program's text lays them. -/
structure Env5 (w : World) (Ad : Nat → Addr) : Prop where
  cell : ∀ k ∈ five, w.cell? ⟨gv k, 0, none⟩ = some (.iface 262 (.pointer (some (Ad k))))
  sen : ∀ k ∈ five, SenK w (Ad k)
  inj : ∀ i ∈ five, ∀ j ∈ five, Ad i = Ad j → i = j
section
variable {w w' : World} {Ad : Nat → Addr}
theorem Env5.later (h : Env5 w Ad) (hb : Below w.heap.size w w') : Env5 w' Ad :=
  ⟨fun k hk => seen hb (Nat.le_refl _) (h.cell k hk), fun k hk => (h.sen k hk).below hb (h.sen k hk).lt, h.inj⟩
theorem Env5.c1 (h : Env5 w Ad) : w.cell? ⟨1, 0, none⟩ = some (.iface 262 (.pointer (some (Ad 1)))) := h.cell 1 (by decide)
theorem Env5.c2 (h : Env5 w Ad) : w.cell? ⟨0, 0, none⟩ = some (.iface 262 (.pointer (some (Ad 2)))) := h.cell 2 (by decide)
theorem Env5.c6 (h : Env5 w Ad) : w.cell? ⟨4, 0, none⟩ = some (.iface 262 (.pointer (some (Ad 6)))) := h.cell 6 (by decide)
theorem Env5.c7 (h : Env5 w Ad) : w.cell? ⟨3, 0, none⟩ = some (.iface 262 (.pointer (some (Ad 7)))) := h.cell 7 (by decide)
theorem Env5.c9 (h : Env5 w Ad) : w.cell? ⟨2, 0, none⟩ = some (.iface 262 (.pointer (some (Ad 9)))) := h.cell 9 (by decide)
theorem Env5.same (h : Env5 w Ad) {p k : Nat} (hp : p ∈ five) (hk : k ∈ five) : decide (Ad p = Ad k) = decide (p = k) := by
  by_cases e : p = k
  · subst e; simp
  · have : Ad p ≠ Ad k := fun h' => e (h.inj p hp k hk h')
    simp [e, this]
end
/-- A sentinel inside Blames. -/
def Err (Ad : Nat → Addr) (W : World) (v : Value) (k d : Nat) : Prop := ∃ ws, Chn Ad W.heap.size W d v (ws, k)
theorem Err.later {Ad : Nat → Addr} {W W' : World} {v : Value} {k d : Nat} (h : Err Ad W v k d) (hb : Below W.heap.size W W') : Err Ad W' v k d := by
  obtain ⟨ws, h⟩ := h; exact ⟨ws, h.move hb hb.size⟩
theorem err_leaf (Ad : Nat → Addr) (W : World) (k : Nat) (hk : 1 ≤ k ∧ k ≤ 18) : Err Ad W (.iface 262 (.pointer (some (Ad k)))) k 0 := ⟨[], rfl, hk.1, hk.2, Nat.le_refl _⟩
theorem at_err (Ad : Nat → Addr) (s : ByteArray) (v : Value) (k d : Nat) (w : World) (h : Err Ad w v k d) :
    Calls Tryz.prog 33 #[.string s, v] w fun e w' => ∃ t q, e = .returned (.iface t q) ∧ Err Ad w' (.iface t q) k (d + 1) ∧ Below w.heap.size w w' := by
  obtain ⟨ws, h⟩ := h
  refine (at_chain Ad s d v (ws, k) w h).mono ?_
  rintro e w' ⟨v', rfl, hc, hb⟩
  obtain ⟨t, q, rfl, _⟩ := hc.1.shape
  exact ⟨t, q, rfl, ⟨_, hc⟩, hb⟩
theorem is_err (Ad : Nat → Addr) {W : World} {v : Value} {p k d : Nat} (hE : Env5 W Ad) (h : Err Ad W v p d) (hp : p ∈ five) (hk : k ∈ five) :
    Calls Tryz.prog 127 #[v, .iface 262 (.pointer (some (Ad k)))] W fun e W' => e = .returned (.bool (decide (p = k))) ∧ Below W.heap.size W W' := by
  obtain ⟨ws, h⟩ := h
  obtain ⟨t, q, rfl, -⟩ := h.1.shape
  refine is_by Ad k t q _ W ((eis_gen Ad W.heap.size k W ws _ p (hE.sen p hp) (hE.sen k hk) (hE.same hp hk) h.1).mono ?_)
  rintro e w' ⟨rfl, rfl⟩
  exact ⟨rfl, Below.refl _ _⟩
section
variable {Ad : Nat → Addr} {B : Nat} {W : World} {bb ob nb : Nat} {n : Int} {l : Prs}
theorem und1 : Tryz.prog.underlying 97 = some (.map 3 58) := Tryz.underlying97
theorem und2 : Tryz.prog.underlying 98 = some (.map 58 3) := Tryz.underlying98
/-- What unnumbered, ID read. -/
def Rd (W : World) (bb nb b : Nat) (i g : Int) (x : Int) (r : Bool) : Prop := W.cell? ⟨bb, 1, none⟩ = some (.map (some nb)) ∧ W.cell? ⟨b, 0, none⟩ = some (.int .i64 i) ∧ W.cell? ⟨b, 1, none⟩ = some (.int .i64 g) ∧ (Instr.lookup 98 (.map (some nb)) (.agg #[.int .i64 i, .int .i64 g]) true).run Tryz.prog W = .ok (.tuple #[.int .i64 x, .bool r]) W
theorem Bg.rd (h : Bg B W bb ob nb n l) {b : Nat} (i g : Int) (hi : I64 i) (hg : I64 g) (hb : W.heap[b]? = some (.cells #[.int .i64 i, .int .i64 g] 58 (0, 0))) : Rd W bb nb b i g ((num l (i, g)).getD 0) (num l (i, g)).isSome :=
  ⟨h.c1, cell_blk hb rfl, cell_blk hb rfl, h.m2.look und2 i g hi hg⟩
set_option maxHeartbeats 1600000 in
set_option maxRecDepth 100000 in
theorem unn_none (h : Bg B W bb ob nb n l) (i g : Int) (hi : I64 i) (hg : I64 g) (hn : num l (i, g) = none) :
    Calls Tryz.prog 40 #[.pointer (some ⟨bb, 0, none⟩), .agg #[.int .i64 i, .int .i64 g]] W fun e W' => e = .returned .nilIface ∧ Below W.heap.size W W' := by
  obtain ⟨w1, hw1⟩ : ∃ w1, w1 = W.alloc (.cells #[.int .i64 i, .int .i64 g] 58) := ⟨_, rfl⟩
  have b1 : Below W.heap.size W w1 := by rw [hw1]; exact bAl _ _
  have r1 : w1.heap[W.heap.size]? = some (.cells #[.int .i64 i, .int .i64 g] 58 (0, 0)) := by rw [hw1]; exact heap_alloc_new W _
  have KK : Hid (∀ W', Below w1.heap.size w1 W' → W'.cell? ⟨bb, 1, none⟩ = some (.map (some nb)) ∧ W'.cell? ⟨W.heap.size, 0, none⟩ = some (.int .i64 i) ∧ W'.cell? ⟨W.heap.size, 1, none⟩ = some (.int .i64 g) ∧ (Instr.lookup 98 (.map (some nb)) (.agg #[.int .i64 i, .int .i64 g]) true).run Tryz.prog W' = .ok (.tuple #[.int .i64 0, .bool false]) W') := fun W' hb => by
    have := ((h.later b1).later hb).rd i g hi hg (blk_seen hb (Nat.le_refl _) r1)
    rw [hn] at this
    exact this
  have HW1 := hid hw1
  have B1 := hid b1
  clear h hi hg hn hw1 b1 r1
  go_enter Tryz.func40, Tryz.ntmps40
  go_upto_region 1 with fail
  rw [← HW1.out]
  go_region_held3 (fun W' => W'.cell? ⟨bb, 1, none⟩ = some (.map (some nb)) ∧ W'.cell? ⟨W.heap.size, 0, none⟩ = some (.int .i64 i) ∧ W'.cell? ⟨W.heap.size, 1, none⟩ = some (.int .i64 g) ∧ (Instr.lookup 98 (.map (some nb)) (.agg #[.int .i64 i, .int .i64 g]) true).run Tryz.prog W' = .ok (.tuple #[.int .i64 0, .bool false]) W')
    (first | exact KK.out _ (Below.refl _ _).drew | exact KK.out _ (Below.refl _ _)) (fail)
  go_wp2_with fail
  go_ret
  exact ⟨rfl, by first | exact B1.out.drew | exact B1.out⟩
set_option maxHeartbeats 1600000 in
set_option maxRecDepth 100000 in
theorem unn_some (h : Bg B W bb ob nb n l) (hE : Env5 W Ad) (i g : Int) (hi : I64 i) (hg : I64 g) {x : Int} (hn : num l (i, g) = some x) :
    Calls Tryz.prog 40 #[.pointer (some ⟨bb, 0, none⟩), .agg #[.int .i64 i, .int .i64 g]] W fun e W' => ∃ t q, e = .returned (.iface t q) ∧ Err Ad W' (.iface t q) 9 1 ∧ Below W.heap.size W W' := by
  obtain ⟨w1, hw1⟩ : ∃ w1, w1 = W.alloc (.cells #[.int .i64 i, .int .i64 g] 58) := ⟨_, rfl⟩
  have b1 : Below W.heap.size W w1 := by rw [hw1]; exact bAl _ _
  have r1 : w1.heap[W.heap.size]? = some (.cells #[.int .i64 i, .int .i64 g] 58 (0, 0)) := by rw [hw1]; exact heap_alloc_new W _
  have KK : Hid (∀ W', Below w1.heap.size w1 W' → W'.cell? ⟨bb, 1, none⟩ = some (.map (some nb)) ∧ W'.cell? ⟨W.heap.size, 0, none⟩ = some (.int .i64 i) ∧ W'.cell? ⟨W.heap.size, 1, none⟩ = some (.int .i64 g) ∧ (Instr.lookup 98 (.map (some nb)) (.agg #[.int .i64 i, .int .i64 g]) true).run Tryz.prog W' = .ok (.tuple #[.int .i64 x, .bool true]) W') := fun W' hb => by
    have := ((h.later b1).later hb).rd i g hi hg (blk_seen hb (Nat.le_refl _) r1)
    rw [hn] at this
    exact this
  have HW1 := hid hw1
  have B1 := hid b1
  have HE := hid (fun W' (hb : Below w1.heap.size w1 W') => ((hE.later b1).later hb).c9)
  have AC := hid (fun str W' => at_err Ad str _ 9 0 W' (err_leaf Ad W' 9 (by decide)))
  clear h hi hg hn hw1 b1 r1 hE
  go_enter Tryz.func40, Tryz.ntmps40
  go_upto_region 1 with fail
  rw [← HW1.out]
  go_region_held3 (fun W' => W'.cell? ⟨bb, 1, none⟩ = some (.map (some nb)) ∧ W'.cell? ⟨W.heap.size, 0, none⟩ = some (.int .i64 i) ∧ W'.cell? ⟨W.heap.size, 1, none⟩ = some (.int .i64 g) ∧ (Instr.lookup 98 (.map (some nb)) (.agg #[.int .i64 i, .int .i64 g]) true).run Tryz.prog W' = .ok (.tuple #[.int .i64 x, .bool true]) W')
    (first | exact KK.out _ (Below.refl _ _).drew | exact KK.out _ (Below.refl _ _)) (fail)
  have c9 := HE.out _ (Below.refl _ _).drew
  go_wp2_with fail
  refine (AC.out _ _).mono ?_
  rintro e w3 ⟨t, q, rfl, hv, hb⟩
  have HV := hid hv
  have bd : Below w1.heap.size w1 w1.drew := (Below.refl _ _).drew
  have B3 := hid (B1.out.trans ((bd.trans (hb.mono bd.size)).mono B1.out.size))
  clear hv hb bd c9 AC KK HE
  go_wp2_with fail
  go_ret
  exact ⟨t, q, rfl, HV.out, B3.out⟩
end
end Go.Proofs.YtoafpfheopgdkaaGreatDoor.Bd
namespace Go.Proofs.YtoafpfheopgdkaaGreatDoor.Bd
open Go.RowKit Go.Shelf Go.Maps
section
variable {Ad : Nat → Addr} {B : Nat} {W : World} {bb ob nb : Nat} {n : Int} {l : Prs}
set_option maxHeartbeats 1600000 in
set_option maxRecDepth 100000 in
theorem new_any (W : World) : Calls Tryz.prog 16 #[] W fun e W' => ∃ bb ob nb, e = .returned (.pointer (some ⟨bb, 0, none⟩)) ∧ Bg W.heap.size W' bb ob nb 1 [] ∧ Below W.heap.size W W' := by
  have hmm := @run_makeMap Tryz.prog
  go_enter Tryz.func16, Tryz.ntmps16
  go_wp2_with fail
  have e1 : (W.alloc (.map #[] 0)).heap.size = W.heap.size + 1 := by simp
  have e2 : ((W.alloc (.map #[] 0)).alloc (.map #[] 0)).heap.size = W.heap.size + 2 := by simp
  have b1 := bAl W (.map #[] 0)
  have b2 := bAl (W.alloc (.map #[] 0)) (.map #[] 0)
  have b3 := bAl ((W.alloc (.map #[] 0)).alloc (.map #[] 0)) (.cells #[.map (some W.heap.size), .map (some (W.heap.size + 1)), .int .i64 1] 100)
  have m1 := (m1_made W).kept (T := fun _ => False) (St.of_below b2) fun q => q
  have m1 := m1.kept (T := fun _ => False) (St.of_below b3) fun q => q
  have m2 := (m2_made (W.alloc (.map #[] 0))).kept (T := fun _ => False) (St.of_below b3) fun q => q
  have bx := heap_alloc_new ((W.alloc (.map #[] 0)).alloc (.map #[] 0)) (.cells #[.map (some W.heap.size), .map (some (W.heap.size + 1)), .int .i64 1] 100)
  rw [e1] at m2
  rw [e2] at bx
  have G : Bg W.heap.size (((W.alloc (.map #[] 0)).alloc (.map #[] 0)).alloc (.cells #[.map (some W.heap.size), .map (some (W.heap.size + 1)), .int .i64 1] 100)) (W.heap.size + 2) W.heap.size (W.heap.size + 1) 1 [] := ⟨bx, m1, m2, okP.nil, by omega, by omega⟩
  have bb := b1.trans ((b2.trans (b3.mono b2.size)).mono b1.size)
  go_ret
  exact ⟨_, _, _, rfl, G, bb⟩
set_option maxHeartbeats 800000 in
theorem len_any (h : Bg B W bb ob nb n l) : Calls Tryz.prog 20 #[.pointer (some ⟨bb, 0, none⟩)] W fun e W' => e = .returned (.int .i64 (l.length : Int)) ∧ W' = W := by
  have c0 := h.c0
  have hl := fun ty => h.m1.len und1 ty
  clear h
  go_enter Tryz.func20, Tryz.ntmps20
  go_wp2_with fail
  go_ret
  exact ⟨rfl, rfl⟩
set_option maxHeartbeats 800000 in
theorem len_nil (W : World) : Calls Tryz.prog 20 #[.pointer none] W fun e W' => e = .returned (.int .i64 0) ∧ W' = W := by
  go_enter Tryz.func20, Tryz.ntmps20
  go_wp2_with fail
  go_ret
  exact ⟨rfl, rfl⟩
set_option maxHeartbeats 1600000 in
set_option maxRecDepth 100000 in
theorem id_any (h : Bg B W bb ob nb n l) (i g : Int) (hi : I64 i) (hg : I64 g) :
    Calls Tryz.prog 27 #[.pointer (some ⟨bb, 0, none⟩), .agg #[.int .i64 i, .int .i64 g]] W fun e W' => e = .returned (.tuple #[.int .i64 ((num l (i, g)).getD 0), .bool (num l (i, g)).isSome]) ∧ Below W.heap.size W W' := by
  obtain ⟨w1, hw1⟩ : ∃ w1, w1 = W.alloc (.cells #[.int .i64 i, .int .i64 g] 58) := ⟨_, rfl⟩
  have b1 : Below W.heap.size W w1 := by rw [hw1]; exact bAl _ _
  have r1 : w1.heap[W.heap.size]? = some (.cells #[.int .i64 i, .int .i64 g] 58 (0, 0)) := by rw [hw1]; exact heap_alloc_new W _
  have KK : Hid (∀ W', Below w1.heap.size w1 W' → Rd W' bb nb W.heap.size i g ((num l (i, g)).getD 0) (num l (i, g)).isSome) := fun W' hb => ((h.later b1).later hb).rd i g hi hg (blk_seen hb (Nat.le_refl _) r1)
  have HW1 := hid hw1
  have B1 := hid b1
  generalize (num l (i, g)).getD 0 = x at *
  generalize (num l (i, g)).isSome = r at *
  unfold Rd at KK
  clear h hi hg hw1 b1 r1
  go_enter Tryz.func27, Tryz.ntmps27
  go_upto_region 3 with fail
  rw [← HW1.out]
  go_region_held3 (fun W' => W'.cell? ⟨bb, 1, none⟩ = some (.map (some nb)) ∧ W'.cell? ⟨W.heap.size, 0, none⟩ = some (.int .i64 i) ∧ W'.cell? ⟨W.heap.size, 1, none⟩ = some (.int .i64 g) ∧ (Instr.lookup 98 (.map (some nb)) (.agg #[.int .i64 i, .int .i64 g]) true).run Tryz.prog W' = .ok (.tuple #[.int .i64 x, .bool r]) W')
    (first | exact KK.out _ (Below.refl _ _).drew | exact KK.out _ (Below.refl _ _)) (fail)
  have BF : Hid (Below W.heap.size W w1.drew) := B1.out.drew
  go_wp2_with fail
  exact bodyPost_ret (v := .tuple #[.int .i64 x, .bool r]) (by simp [results, Tryz.results27, go_sem]) rfl ⟨rfl, BF.out⟩
end
end Go.Proofs.YtoafpfheopgdkaaGreatDoor.Bd
