/- A part of StoreExact. -/
import Derived.Test.YtnlcbheidiigaaaGreatDoorRsHc
import Derived.Test.YtnlcbheidiigaaaGreatDoorRsGu
namespace Go.Proofs.YtnlcbheidiigaaaGreatDoor
namespace Rs
open Go.RowKit Go.Shelf Go.Maps
open YtnlcbheidiigaaaGreatDoor.So (al sortP)
open Co (I64)
section
variable {W1 w w' : World} {sb ub : Nat} {s u : SD} {t : Nat} {gv : Value} {gl : List (Nat × Nat)} {fr : List (Nat × Obj)} {Ad : Nat → Addr}
theorem d_spawn (h : Ex W1 sb ub s u t gv gl fr w) (ht : ∀ g ∈ u.r.gens, g ≤ 800) (hns : u.sets.length ≤ 900) {v : Value} {l : List Prt} (hv : PRow W1 v l) (hl : l.length ≤ 30) (hti : ∀ p ∈ l, I64 p.t) :
  Calls Tryz.prog 17 #[.pointer (some ⟨ub, 0, none⟩), v] w fun e w' => e = .returned (.tuple #[.agg #[.int .i64 (u.spawn l).1.1, .int .i64 (u.spawn l).1.2.1], .int .i64 (u.spawn l).1.2.2]) ∧ Ex W1 sb ub s (u.spawn l).2 t gv gl fr w' ∧ ((u.spawn l).1.2.2 ≠ 0 → Below w.heap.size w w') := by
 obtain ⟨c, x, h⟩ := h
 have h := h.bound ht
 refine (spawn_any h.d (hv.later h.bel) (by omega) hti (show 800 ≤ 1000 by omega) hns).mono ?_
 rintro e w' ⟨rfl, ⟨x', k1⟩, k2⟩
 exact ⟨rfl, ⟨c, x', h.goD k1⟩, k2⟩
theorem d_despawn (h : Ex W1 sb ub s u t gv gl fr w) (i g : Int) :
  Calls Tryz.prog 19 #[.pointer (some ⟨ub, 0, none⟩), .agg #[.int .i64 i, .int .i64 g]] w fun e w' => ∃ v, e = .returned (.tuple #[v, .int .i64 (u.desp i g).2.1]) ∧ (u.desp i g).1.length ≤ 900 ∧ PRow w' v (u.desp i g).1 ∧ Ex W1 sb ub s (u.desp i g).2.2 t gv gl fr w' ∧ ((u.desp i g).2.1 ≠ 0 → Below w.heap.size w w') := by
 obtain ⟨c, x, h⟩ := h
 cases ha : u.r.aliveB i g with
 | false =>
  have E : u.desp i g = ([], 17, u) := by unfold SD.desp; rw [ha]; rfl
  rw [E]
  refine (despawn_dead h.d i g ha).mono ?_
  rintro e w' ⟨rfl, hb⟩
  exact ⟨_, rfl, by simp, ⟨none, 0, rfl, .inl rfl⟩, ⟨c, x, h.later hb⟩, fun _ => hb⟩
 | true =>
  have E : u.desp i g = (u.at i.toNat, 0, { u with r := u.r.freed i.toNat }) := by unfold SD.desp; rw [ha]; rfl
  rw [E]
  obtain ⟨k, rfl, hk⟩ := alive_lt ha
  rw [Int.toNat_natCast]
  have hk64 : k < 64 := by have := h.d.roll.small; omega
  refine (despawn_alive h.d k g ha).mono ?_
  rintro e w' ⟨v, rfl, x', e1, e2, k1⟩
  obtain ⟨v', f1, -, f3, f4⟩ := k1.sb.place hk64
  have hle := okL_few f4 k1.sb.okw.1
  rw [e1, e2] at f1
  obtain rfl : v = v' := by simpa using f1
  exact ⟨v, rfl, Nat.le_trans hle (by omega), Prts.row (B := W1.heap.size) f3, ⟨c, x', h.goD k1⟩, fun q => absurd rfl q⟩
theorem d_insert (h : Ex W1 sb ub s u t gv gl fr w) (hns : u.sets.length ≤ 900) (i g : Int) (p : Prt) :
  Calls Tryz.prog 22 #[.pointer (some ⟨ub, 0, none⟩), .agg #[.int .i64 i, .int .i64 g], .agg #[.int .i64 p.c, .int .i64 p.v0, .int .i64 p.v1, .int .i64 p.v2, .int .i64 p.v3, .int .i64 p.t]] w fun e w' => e = .returned (.int .i64 (u.ins i g p).1) ∧ Ex W1 sb ub s (u.ins i g p).2 t gv gl fr w' ∧ ((u.ins i g p).1 ≠ 0 → Below w.heap.size w w') := by
 obtain ⟨c, x, h⟩ := h
 by_cases hno : u.r.aliveB i g = true → fitP u.ws p = true → ix (u.at i.toNat) p.c < (u.at i.toNat).length
 ·refine (insert_no2 h.d i g p hno).mono ?_
  rintro e w' ⟨rfl, e1, hb⟩
  rw [e1]
  exact ⟨rfl, ⟨c, x, h.later hb⟩, fun _ => hb⟩
 ·have ha : u.r.aliveB i g = true := Classical.byContradiction fun q => hno fun q' => absurd q' q
  have hf : fitP u.ws p = true := Classical.byContradiction fun q => hno fun _ q' => absurd q' q
  have hx : (u.at i.toNat).length ≤ ix (u.at i.toNat) p.c := Classical.byContradiction fun q => hno fun _ _ => by omega
  refine (insert_yes h.d i g p hns ha hf hx).mono ?_
  rintro e w' ⟨rfl, x', k1⟩
  refine ⟨rfl, ⟨c, x', h.goD k1⟩, fun q => absurd ?_ q⟩
  unfold SD.ins
  rw [if_pos ha, if_pos hf, if_neg (by omega)]
theorem d_get (h : Ex W1 sb ub s u t gv gl fr w) (i g comp : Int) :
  Calls Tryz.prog 39 #[.pointer (some ⟨ub, 0, none⟩), .agg #[.int .i64 i, .int .i64 g], .int .i64 comp] w fun e w' => e = .returned (.tuple #[(u.get i g comp).1.val, .int .i64 (u.get i g comp).2]) ∧ Below w.heap.size w w' := by
 obtain ⟨c, x, h⟩ := h
 exact get_any h.d i g comp
theorem d_remove (h : Ex W1 sb ub s u t gv gl fr w) (hns : u.sets.length ≤ 900) (i g comp : Int) :
  Calls Tryz.prog 24 #[.pointer (some ⟨ub, 0, none⟩), .agg #[.int .i64 i, .int .i64 g], .int .i64 comp] w fun e w' => e = .returned (.tuple #[(u.get i g comp).1.val, .int .i64 (u.get i g comp).2]) ∧ Ex W1 sb ub s (u.rem i g comp) t gv gl fr w' ∧ ((u.get i g comp).2 ≠ 0 → Below w.heap.size w w') := by
 obtain ⟨c, x, h⟩ := h
 refine (remove_any h.d i g comp hns).mono ?_
 rintro e w' ⟨rfl, ⟨x', k1⟩, k2⟩
 exact ⟨rfl, ⟨c, x', h.goD k1⟩, k2⟩
theorem Ex.match (h : Ex W1 sb ub s u t gv gl fr w) (a b : Nat) (ha : a < 4294967296) (hb : b < 4294967296) :
  (Calls Tryz.prog 30 #[.pointer (some ⟨sb, 0, none⟩), .int .u32 (a : Int), .int .u32 (b : Int)] w fun e w' => ∃ v, e = .returned v ∧ Ro.Ents w.heap.size w' v (So.matched s a b) ∧ Below w.heap.size w w') ∧
  (Calls Tryz.prog 31 #[.pointer (some ⟨ub, 0, none⟩), .int .u32 (a : Int), .int .u32 (b : Int)] w fun e w' => ∃ v, e = .returned v ∧ Ro.Ents w.heap.size w' v (So.matched u a b) ∧ Below w.heap.size w w') := by
 obtain ⟨c, x, h⟩ := h
 exact ⟨So.smatch_any h.p a b ha hb, match_any h.d a b ha hb⟩
theorem Ex.changed (h : Ex W1 sb ub s u t gv gl fr w) (comp f : Int) (hc : I64 comp) :
  (Calls Tryz.prog 32 #[.pointer (some ⟨sb, 0, none⟩), .int .i64 comp, .int .i64 f] w fun e w' => ∃ v, e = .returned v ∧ Ro.Ents w.heap.size w' v (So.changedL s comp f) ∧ Below w.heap.size w w') ∧
  (Calls Tryz.prog 33 #[.pointer (some ⟨ub, 0, none⟩), .int .i64 comp, .int .i64 f] w fun e w' => ∃ v, e = .returned v ∧ Ro.Ents w.heap.size w' v (So.changedL u comp f) ∧ Below w.heap.size w w') := by
 obtain ⟨c, x, h⟩ := h
 exact ⟨So.changed_any h.p comp f hc, changed_any h.d comp f⟩
theorem Ex.count (h : Ex W1 sb ub s u t gv gl fr w) : Calls Tryz.prog 35 #[.pointer (some ⟨sb, 0, none⟩)] w fun e w' => e = .returned (.int .i64 (s.r.count : Int)) ∧ w' = w := by
 obtain ⟨c, x, h⟩ := h
 exact So.scount_any h.p
theorem Ex.tables (h : Ex W1 sb ub s u t gv gl fr w) : Calls Tryz.prog 37 #[.pointer (some ⟨sb, 0, none⟩)] w fun e w' => e = .returned (.int .i64 (s.sets.length : Int)) ∧ w' = w := by
 obtain ⟨c, x, h⟩ := h
 exact So.tables_any h.p
theorem Ex.alive (h : Ex W1 sb ub s u t gv gl fr w) (i g : Int) (hi : I64 i) (hg : I64 g) : Calls Tryz.prog 40 #[.pointer (some ⟨sb, 0, none⟩), .agg #[.int .i64 i, .int .i64 g]] w fun e w' => e = .returned (.bool (s.r.aliveB i g)) ∧ Below w.heap.size w w' := by
 obtain ⟨c, x, h⟩ := h
 exact So.alive_any h.p i g hi hg
theorem Ex.roll (h : Ex W1 sb ub s u t gv gl fr w) : ∃ rb, (∀ w', Below w.heap.size w w' → w'.cell? ⟨ub, 2, none⟩ = some (.pointer (some ⟨rb, 0, none⟩))) ∧
  (∀ w', Below w.heap.size w w' → Calls Tryz.prog 36 #[.pointer (some ⟨rb, 0, none⟩)] w' fun e w2 => ∃ v, e = .returned v ∧ Ro.Ents w'.heap.size w2 v u.r.all ∧ Below w'.heap.size w' w2) ∧
  (∀ w' i g, Below w.heap.size w w' → Calls Tryz.prog 41 #[.pointer (some ⟨rb, 0, none⟩), .agg #[.int .i64 i, .int .i64 g]] w' fun e w2 => e = .returned (.bool (u.r.aliveB i g)) ∧ Below w'.heap.size w' w2) := by
 obtain ⟨c, x, h⟩ := h
 exact ⟨x.rb, fun w' hb => (h.d.later hb).c2, fun w' hb => Ro.rlist_any (h.d.later hb).roll, fun w' i g hb => Ro.ralive_any (h.d.later hb).roll i g⟩
theorem Ex.sets (h : Ex W1 sb ub s u t gv gl fr w) : ∃ a c, ∀ w', Below w.heap.size w w' → w'.cell? ⟨ub, 67, none⟩ = some (.slice a u.sets.length c) := by
 obtain ⟨c, x, h⟩ := h
 obtain ⟨a, c, e⟩ := At.Msk.slice h.d.sets
 exact ⟨a, c, fun w' hb => by rw [(h.d.later hb).cs, e]⟩
theorem Ex.place (h : Ex W1 sb ub s u t gv gl fr w) {k : Nat} (hk : k < 64) : ∃ v, (∀ w', Below w.heap.size w w' → w'.cell? ⟨ub, 3 + k, none⟩ = some v ∧ PRow w' v (u.at k)) ∧ okL u.ws (u.at k) ∧ u.ws.length ≤ 16 := by
 obtain ⟨c, x, h⟩ := h
 obtain ⟨v, f1, f2, f3, f4⟩ := h.d.place hk
 refine ⟨v, fun w' hb => ?_, f4, h.d.okw.1⟩
 obtain ⟨v', g1, g2, g3, -⟩ := (h.d.later hb).place hk
 rw [f1] at g1
 obtain rfl : v = v' := by simpa using g1
 exact ⟨g2, Prts.row (B := W1.heap.size) g3⟩
theorem Ex.parts (h : Ex W1 sb ub s u t gv gl fr w) {i g : Nat} (ha : al s i g) : Calls Tryz.prog 42 #[.pointer (some ⟨sb, 0, none⟩), .agg #[.int .i64 (i : Int), .int .i64 (g : Int)]] w fun e w' => ∃ v, e = .returned (.tuple #[v, .nilIface]) ∧ PRow w' v (s.at i) ∧ Below w.heap.size w w' := by
 obtain ⟨c, x, h⟩ := h
 refine (So.parts_ok h.p ha).mono ?_
 rintro e w' ⟨v, rfl, q1, q2⟩
 exact ⟨v, rfl, Prts.row q1, q2⟩
theorem Ex.mask (h : Ex W1 sb ub s u t gv gl fr w) {i g : Nat} (ha : al s i g) : Calls Tryz.prog 43 #[.pointer (some ⟨sb, 0, none⟩), .agg #[.int .i64 (i : Int), .int .i64 (g : Int)]] w fun e w' => e = .returned (.tuple #[.int .u32 (mskP (s.at i) : Int), .nilIface]) ∧ Below w.heap.size w w' := by
 obtain ⟨c, x, h⟩ := h
 exact So.mask_ok h.p ha
theorem Ex.small (h : Ex W1 sb ub s u t gv gl fr w) : u.r.gens.length ≤ 64 ∧ u.r.ok := by
 obtain ⟨c, x, h⟩ := h
 exact ⟨h.d.roll.small, h.d.roll.ok⟩
end
theorem all_small {s : SD} (h64 : s.r.gens.length ≤ 64) (ht : ∀ g ∈ s.r.gens, g ≤ 800) : ∀ p ∈ s.r.all, p.1 ≤ 1000 ∧ p.2 ≤ 1000 := fun p hp => by
 obtain ⟨h1, -, h3⟩ := Ro.RS.upto_mem hp
 refine ⟨by omega, ?_⟩
 rw [h3, List.getD_eq_getElem?_getD, List.getElem?_eq_getElem h1]
 have := ht _ (List.getElem_mem h1)
 simp
 omega
theorem all_len {s : SD} (h64 : s.r.gens.length ≤ 64) : s.r.all.length ≤ 64 := by
 have := s.r.upto_len s.r.gens.length
 unfold Ro.RS.all
 omega
structure Sm (s : SD) (q : Nat) : Prop where
 gens : ∀ g ∈ s.r.gens, g ≤ q
 sets : s.sets.length ≤ q + 1
theorem Sm.mono {s : SD} {q q' : Nat} (h : Sm s q) (hq : q ≤ q') : Sm s q' := ⟨fun g hg => Nat.le_trans (h.gens g hg) hq, by have := h.sets; omega⟩
theorem add_le (l : List Nat) (m : Nat) : (At.add l m).length ≤ l.length + 1 := by
 unfold At.add
 split <;> simp
theorem Sm.of {s s' : SD} {q : Nat} (h : Sm s q) (h1 : s'.r.gens = s.r.gens) (h2 : s'.sets = s.sets ∨ ∃ m, s'.sets = At.add s.sets m) : Sm s' (q + 1) := by
 refine ⟨fun g hg => by rw [h1] at hg; have := h.gens g hg; omega, ?_⟩
 rcases h2 with e | ⟨m, e⟩
 ·rw [e]; have := h.sets; omega
 ·rw [e]; have := add_le s.sets m; have := h.sets; omega
theorem Sm.spawn {s : SD} {q : Nat} (h : Sm s q) (l : List Prt) : Sm (s.spawn l).2 (q + 1) := by
 unfold SD.spawn
 split
 ·split
  ·rename_i i hi
   refine ⟨fun g hg => ?_, ?_⟩
   ·have hg' : g ∈ s.r.gens.set i (s.r.gens.getD i 0 + 1) := hg
    rcases List.mem_or_eq_of_mem_set hg' with hg' | rfl
    ·have := h.gens g hg'; omega
    ·by_cases hl : i < s.r.gens.length
     ·have := h.gens _ (List.getElem_mem hl)
      rw [List.getD_eq_getElem?_getD, List.getElem?_eq_getElem hl]
      simp
      omega
     ·rw [List.getD_eq_getElem?_getD, List.getElem?_eq_none_iff.2 (by omega)]
      simp
   ·have := add_le s.sets (mskP (So.sortP l))
    have := h.sets
    show (At.add s.sets (mskP (So.sortP l))).length ≤ _
    omega
  ·exact h.mono (by omega)
 ·exact h.mono (by omega)
theorem Sm.desp {s : SD} {q : Nat} (h : Sm s q) (i g : Int) : Sm (s.desp i g).2.2 (q + 1) := by
 unfold SD.desp
 split
 ·exact h.of rfl (.inl rfl)
 ·exact h.mono (by omega)
theorem Sm.ins {s : SD} {q : Nat} (h : Sm s q) (i g : Int) (p : Prt) : Sm (s.ins i g p).2 (q + 1) := by
 unfold SD.ins
 split
 ·split
  ·split
   ·exact h.mono (by omega)
   ·exact h.of rfl (.inr ⟨_, rfl⟩)
  ·exact h.mono (by omega)
 ·exact h.mono (by omega)
theorem Sm.rem {s : SD} {q : Nat} (h : Sm s q) (i g comp : Int) : Sm (s.rem i g comp) (q + 1) := by
 unfold SD.rem
 split
 ·exact h.of rfl (.inr ⟨_, rfl⟩)
 ·exact h.mono (by omega)
theorem Sm.put {s : SD} {q : Nat} (h : Sm s q) (i g : Int) (p : Prt) : Sm (s.put i g p).2.2 (q + 1) := by
 unfold SD.put
 split
 ·exact h.mono (by omega)
 ·split
  ·exact h.of rfl (.inl rfl)
  ·exact h.mono (by omega)
theorem Sm.setp {s : SD} {q : Nat} (h : Sm s q) (i g comp cell value frame : Int) : Sm (s.setp i g comp cell value frame).2.2 (q + 1) := by
 unfold SD.setp
 split
 ·split
  ·exact h.mono (by omega)
  ·exact h.put i g _
 ·exact h.mono (by omega)
end Rs
end Go.Proofs.YtnlcbheidiigaaaGreatDoor
