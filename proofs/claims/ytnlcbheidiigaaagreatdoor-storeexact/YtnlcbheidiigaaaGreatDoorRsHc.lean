/- A part of StoreExact. -/
import Derived.Test.YtnlcbheidiigaaaGreatDoorRsHb
import Derived.Test.YtnlcbheidiigaaaGreatDoorRsGy
namespace Go.Proofs.YtnlcbheidiigaaaGreatDoor
namespace Rs
open Go.RowKit Go.Shelf Go.Maps
open YtnlcbheidiigaaaGreatDoor.So (Er al rowed entered setQ sortP chkL putP)
open Co (I64)
def SD.desp (s : SD) (i g : Int) : List Prt × Int × SD := if s.r.aliveB i g then (s.at i.toNat, 0, { s with r := s.r.freed i.toNat }) else ([], 17, s)
theorem alive_al {s : SD} {i g : Int} (h : s.r.aliveB i g = true) : ∃ a b : Nat, i = (a : Int) ∧ g = (b : Int) ∧ al s a b := by
 obtain ⟨h0, h1, -, -⟩ := (Ro.RS.aliveB_iff _ _ _).1 h
 obtain ⟨a, rfl⟩ := Int.eq_ofNat_of_zero_le h0
 obtain ⟨b, rfl⟩ := Int.eq_ofNat_of_zero_le h1
 exact ⟨a, b, rfl, rfl, h⟩
section
variable {W1 w w' : World} {sb ub : Nat} {s u : SD} {t : Nat} {gv : Value} {gl : List (Nat × Nat)} {fr : List (Nat × Obj)} {Ad : Nat → Addr}
theorem p_spawn (h : Ex W1 sb ub s u t gv gl fr w) (hE : Env8 W1 Ad) (ht : t ≤ 800) {v : Value} {l : List Prt} (hv : PRow W1 v l) (hl : l.length ≤ 30) (hti : ∀ p ∈ l, I64 p.t) :
  Calls Tryz.prog 16 #[.pointer (some ⟨sb, 0, none⟩), v] w fun e w' => ∃ ev, e = .returned (.tuple #[.agg #[.int .i64 (s.spawn l).1.1, .int .i64 (s.spawn l).1.2.1], ev]) ∧ En Ad w' ev (s.spawn l).1.2.2 ∧ Ex W1 sb ub (s.spawn l).2 u (t + 1) gv gl fr w' := by
 have h' := h
 obtain ⟨c, x, h⟩ := h
 have hE' := hE.later h.bel
 have tt := h.tt
 by_cases hc : chkL s.ws l = 0
 ·rcases List.eq_nil_or_concat s.r.free with hf | ⟨f, i, hf⟩
  ·have E : s.spawn l = ((0, 0, 6), s) := by unfold SD.spawn; rw [if_pos hc, hf]; rfl
   rw [E]
   refine (So.spawn_full Ad h.p hE' (hv.later h.bel) (by omega) hc hf).mono ?_
   rintro e w' ⟨r, rfl, q1, q2⟩
   exact ⟨r, rfl, ⟨6, rfl, q1.up⟩, (h'.later q2).older (by omega)⟩
  ·rw [List.concat_eq_append] at hf
   have hl2 : s.r.free.getLast? = some i := by rw [hf]; simp
   have E : s.spawn l = (((i : Int), ((s.r.gens.getD i 0 : Nat) + 1 : Int), 0), entered { s with r := s.r.took i } i (sortP l)) := by unfold SD.spawn; rw [if_pos hc, hl2]
   rw [E]
   refine (So.spawn_ok Ad h.p hE' (prow_arg hv h.bel fun k q => (h.p.lt k q).1) (by omega) hc hti hf (by omega)).mono ?_
   rintro e w' ⟨rfl, c', k1, k2, k3⟩
   exact ⟨.nilIface, by simp, ⟨0, rfl, Er.none _ _⟩, c', x, h.goP k1 (by omega) k3⟩
 ·have E : s.spawn l = ((0, 0, (chkL s.ws l : Int)), s) := by unfold SD.spawn; rw [if_neg hc]
  rw [E]
  refine (So.spawn_bad Ad h.p hE' (hv.later h.bel) (by omega) hc).mono ?_
  rintro e w' ⟨r, rfl, q1, q2⟩
  exact ⟨r, rfl, ⟨_, rfl, q1.up⟩, (h'.later q2).older (by omega)⟩
theorem p_despawn (h : Ex W1 sb ub s u t gv gl fr w) (hE : Env8 W1 Ad) (i g : Int) (hi : I64 i) (hg : I64 g) :
  Calls Tryz.prog 18 #[.pointer (some ⟨sb, 0, none⟩), .agg #[.int .i64 i, .int .i64 g]] w fun e w' => ∃ v ev, e = .returned (.tuple #[v, ev]) ∧ En Ad w' ev (s.desp i g).2.1 ∧ ∃ fr', (∀ y ∈ fr, y ∈ fr') ∧ (∀ w3 : World, (∀ y ∈ fr', w3.heap[y.1]? = some y.2) → PRow w3 v (s.desp i g).1) ∧ Ex W1 sb ub (s.desp i g).2.2 u t gv gl fr' w' := by
 have h' := h
 obtain ⟨c, x, h⟩ := h
 have tt := h.tt
 cases ha : s.r.aliveB i g with
 | false =>
  have E : s.desp i g = ([], 17, s) := by unfold SD.desp; rw [ha]; rfl
  rw [E]
  refine (So.despawn_err (So.nofind_dead Ad h.p (hE.later h.bel) i g hi hg ha) (by omega)).mono ?_
  rintro e w' ⟨r, rfl, q1, q2⟩
  exact ⟨_, r, rfl, ⟨17, rfl, q1.up⟩, fr, fun y hy => hy, fun w3 _ => ⟨none, 0, rfl, .inl rfl⟩, h'.later q2⟩
 | true =>
  have E : s.desp i g = (s.at i.toNat, 0, { s with r := s.r.freed i.toNat }) := by unfold SD.desp; rw [ha]; rfl
  rw [E]
  obtain ⟨a, b, rfl, rfl, hal⟩ := alive_al ha
  rw [Int.toNat_natCast]
  refine (So.despawn_ok h.p hal).mono ?_
  rintro e w' ⟨v, rfl, q1, c', k1, k2, k3, k4⟩
  obtain ⟨fr0, e1, e2, e3⟩ := own_fr q1
  refine ⟨v, _, rfl, ⟨0, rfl, Er.none _ _⟩, fr0 ++ fr, fun y hy => List.mem_append.2 (.inr hy), fun w3 hw3 => Prts.row (B := w.heap.size) (e3 w3 fun y hy => hw3 y (List.mem_append.2 (.inl hy))), c', x, (h.goP k1 (by omega) k3).add (fun y hy => ⟨(e1 y hy).1, k4 _ (e1 y hy).2, fun q => ?_, fun q => ?_⟩) fun y hy => ?_⟩
  ·have := (h.d.lt _ q).2
   have := (q1.lt _ (e1 y hy).2).1
   omega
  ·have := (World.ownsRow.lt h.giv _ q).2
   have := (q1.lt _ (e1 y hy).2).1
   omega
  ·exact Nat.le_trans h.bel.size (q1.lt _ (e1 y hy).2).1
theorem p_insert (h : Ex W1 sb ub s u t gv gl fr w) (hE : Env8 W1 Ad) (i g : Int) (hi : I64 i) (hg : I64 g) (p : Prt) (hp : I64 p.t) :
  Calls Tryz.prog 21 #[.pointer (some ⟨sb, 0, none⟩), .agg #[.int .i64 i, .int .i64 g], .agg #[.int .i64 p.c, .int .i64 p.v0, .int .i64 p.v1, .int .i64 p.v2, .int .i64 p.v3, .int .i64 p.t]] w fun e w' => ∃ ev, e = .returned ev ∧ En Ad w' ev (s.ins i g p).1 ∧ Ex W1 sb ub (s.ins i g p).2 u t gv gl fr w' := by
 have h' := h
 obtain ⟨c, x, h⟩ := h
 have tt := h.tt
 have hE' := hE.later h.bel
 cases ha : s.r.aliveB i g with
 | false =>
  have E : s.ins i g p = (17, s) := by unfold SD.ins; rw [ha]; rfl
  rw [E]
  refine (So.insert_err (k := 17) (by omega) fun W' hb => So.tableFor_err ((So.nofind_dead Ad h.p hE' i g hi hg ha).later hb) (by omega) p).mono ?_
  rintro e w' ⟨r, rfl, q1, q2⟩
  exact ⟨r, rfl, ⟨17, rfl, q1.up⟩, h'.later q2⟩
 | true =>
  obtain ⟨a, b, rfl, rfl, hal⟩ := alive_al ha
  obtain ⟨n, j, m, own, y, A⟩ := h.p.stands hal (by simp)
  have h16 := h.p.okw.1
  cases hf : fitP s.ws p with
  | false =>
   have E : s.ins (a : Int) (b : Int) p = (1, s) := by unfold SD.ins; rw [ha, hf]; rfl
   rw [E]
   refine (So.insert_err (Ad := Ad) (k := 1) (by omega) fun W' hb => ?_).mono ?_
   ·have := So.tableFor_some (h.p.later hb) (hE'.later hb) hal A p
    rw [hf] at this
    exact this
   ·rintro e w' ⟨r, rfl, q1, q2⟩
    exact ⟨r, rfl, ⟨1, rfl, q1.up⟩, h'.later q2⟩
  | true =>
   have hr := fit_range hf
   cases hq : (s.at a)[ix (s.at a) p.c]? with
   | some q =>
    have hx := (List.getElem?_eq_some_iff.1 hq).1
    obtain ⟨hqm, hqc⟩ := ix_some hq
    have E : s.ins (a : Int) (b : Int) p = (9, s) := by unfold SD.ins; rw [ha, hf, Int.toNat_natCast, if_pos rfl, if_pos rfl, if_pos hx]
    rw [E]
    refine (So.insert_twice h.p hE' hal A p hf (cc := p.c.toNat) (by omega) (by omega) ?_).mono ?_
    ·rw [A.msk]
     exact (So.msk_mem (So.okL_pos A.ok.1) _).2 ⟨q, hqm, by omega⟩
    ·rintro e w' ⟨r, rfl, q1, q2⟩
     exact ⟨r, rfl, ⟨9, rfl, q1.up⟩, h'.later q2⟩
   | none =>
    have hx := List.getElem?_eq_none_iff.1 hq
    have hno := ix_none hq
    have E : s.ins (a : Int) (b : Int) p = (0, entered s a (insP (s.at a) p)) := by unfold SD.ins; rw [ha, hf, Int.toNat_natCast, if_pos rfl, if_pos rfl, if_neg (by omega)]; rfl
    rw [E]
    refine (So.insert_ok Ad h.p hE' hal A p hf hp (cc := p.c.toNat) (by omega) (by omega) ?_).mono ?_
    ·refine Bool.eq_false_iff.2 fun q => ?_
     rw [A.msk] at q
     obtain ⟨z, hz, ez⟩ := (So.msk_mem (So.okL_pos A.ok.1) _).1 q
     exact hno z hz (by omega)
    ·rintro e w' ⟨rfl, c', k1, k2, k3⟩
     exact ⟨_, rfl, ⟨0, rfl, Er.none _ _⟩, c', x, h.goP k1 (by omega) k3⟩
theorem p_get (h : Ex W1 sb ub s u t gv gl fr w) (hE : Env8 W1 Ad) (i g comp : Int) (hi : I64 i) (hg : I64 g) (hc : I64 comp) :
  Calls Tryz.prog 38 #[.pointer (some ⟨sb, 0, none⟩), .agg #[.int .i64 i, .int .i64 g], .int .i64 comp] w fun e w' => ∃ ev, e = .returned (.tuple #[(s.get i g comp).1.val, ev]) ∧ En Ad w' ev (s.get i g comp).2 ∧ Below w.heap.size w w' := by
 obtain ⟨c, x, h⟩ := h
 have hE' := hE.later h.bel
 cases ha : s.r.aliveB i g with
 | false =>
  have E : s.get i g comp = (Prt.zero, 17) := by unfold SD.get; rw [ha]; rfl
  rw [E]
  refine (So.get_err (So.nofind_dead Ad h.p hE' i g hi hg ha) (by omega) comp).mono ?_
  rintro e w' ⟨r, rfl, q1, q2⟩
  exact ⟨r, rfl, ⟨17, rfl, q1.up⟩, q2⟩
 | true =>
  obtain ⟨a, b, rfl, rfl, hal⟩ := alive_al ha
  cases hq : (s.at a)[ix (s.at a) comp]? with
  | none =>
   have E : s.get (a : Int) (b : Int) comp = (Prt.zero, 7) := by unfold SD.get; rw [ha, Int.toNat_natCast, hq]; rfl
   rw [E]
   refine (So.get_none h.p hE' hal comp hc (ix_none hq)).mono ?_
   rintro e w' ⟨r, rfl, q1, q2⟩
   exact ⟨r, rfl, ⟨7, rfl, q1.up⟩, q2⟩
  | some q =>
   obtain ⟨hqm, rfl⟩ := ix_some hq
   have E : s.get (a : Int) (b : Int) q.c = (q, 0) := by unfold SD.get; rw [ha, Int.toNat_natCast, hq]; rfl
   rw [E]
   refine (So.get_ok h.p hal q hqm).mono ?_
   rintro e w' ⟨rfl, q2⟩
   exact ⟨_, rfl, ⟨0, rfl, Er.none _ _⟩, q2⟩
theorem p_remove (h : Ex W1 sb ub s u t gv gl fr w) (hE : Env8 W1 Ad) (i g comp : Int) (hi : I64 i) (hg : I64 g) (hc : I64 comp) :
  Calls Tryz.prog 23 #[.pointer (some ⟨sb, 0, none⟩), .agg #[.int .i64 i, .int .i64 g], .int .i64 comp] w fun e w' => ∃ ev, e = .returned (.tuple #[(s.get i g comp).1.val, ev]) ∧ En Ad w' ev (s.get i g comp).2 ∧ Ex W1 sb ub (s.rem i g comp) u t gv gl fr w' := by
 have h' := h
 obtain ⟨c, x, h⟩ := h
 have tt := h.tt
 have hE' := hE.later h.bel
 cases ha : s.r.aliveB i g with
 | false =>
  have E : s.get i g comp = (Prt.zero, 17) := by unfold SD.get; rw [ha]; rfl
  unfold SD.rem
  rw [E]
  refine (So.remove_err (k := 17) (by omega) fun W' hb => So.get_err ((So.nofind_dead Ad h.p hE' i g hi hg ha).later hb) (by omega) comp).mono ?_
  rintro e w' ⟨r, rfl, q1, q2⟩
  exact ⟨r, rfl, ⟨17, rfl, q1⟩, h'.later q2⟩
 | true =>
  obtain ⟨a, b, rfl, rfl, hal⟩ := alive_al ha
  cases hq : (s.at a)[ix (s.at a) comp]? with
  | none =>
   have E : s.get (a : Int) (b : Int) comp = (Prt.zero, 7) := by unfold SD.get; rw [ha, Int.toNat_natCast, hq]; rfl
   unfold SD.rem
   rw [E]
   refine (So.remove_err (k := 7) (by omega) fun W' hb => So.get_none (h.p.later hb) (hE'.later hb) hal comp hc (ix_none hq)).mono ?_
   rintro e w' ⟨r, rfl, q1, q2⟩
   exact ⟨r, rfl, ⟨7, rfl, q1⟩, h'.later q2⟩
  | some q =>
   obtain ⟨hqm, rfl⟩ := ix_some hq
   have E : s.get (a : Int) (b : Int) q.c = (q, 0) := by unfold SD.get; rw [ha, Int.toNat_natCast, hq]; rfl
   unfold SD.rem
   rw [E, Int.toNat_natCast]
   refine (So.remove_ok h.p hal q hqm).mono ?_
   rintro e w' ⟨rfl, c', k1, k2, k3⟩
   exact ⟨_, rfl, ⟨0, rfl, Er.none _ _⟩, c', x, h.goP k1 (by omega) k3⟩
theorem p_put (h : Ex W1 sb ub s u t gv gl fr w) (hE : Env8 W1 Ad) (i g : Int) (hi : I64 i) (hg : I64 g) (p : Prt) (hp : I64 p.t) :
  Calls Tryz.prog 25 #[.pointer (some ⟨sb, 0, none⟩), .agg #[.int .i64 i, .int .i64 g], .agg #[.int .i64 p.c, .int .i64 p.v0, .int .i64 p.v1, .int .i64 p.v2, .int .i64 p.v3, .int .i64 p.t]] w fun e w' => ∃ ev, e = .returned (.tuple #[(s.put i g p).1.val, ev]) ∧ En Ad w' ev (s.put i g p).2.1 ∧ Ex W1 sb ub (s.put i g p).2.2 u t gv gl fr w' := by
 have h' := h
 obtain ⟨c, x, h⟩ := h
 have tt := h.tt
 have hE' := hE.later h.bel
 cases ha : s.r.aliveB i g with
 | false =>
  have G : s.get i g p.c = (Prt.zero, 17) := by unfold SD.get; rw [ha]; rfl
  have E : s.put i g p = (Prt.zero, 17, s) := by unfold SD.put; rw [ha, G]; rfl
  rw [E]
  refine (So.put_out (So.nofind_dead Ad h.p hE' i g hi hg ha) (by omega) p).mono ?_
  rintro e w' ⟨r, rfl, q1, q2⟩
  exact ⟨r, rfl, ⟨17, rfl, q1.up⟩, h'.later q2⟩
 | true =>
  obtain ⟨a, b, rfl, rfl, hal⟩ := alive_al ha
  cases hf : fitP s.ws p with
  | false =>
   have E : s.put (a : Int) (b : Int) p = (Prt.zero, 1, s) := by unfold SD.put; rw [ha, hf]; rfl
   rw [E]
   refine (So.put_bad h.p hE' hal p hf).mono ?_
   rintro e w' ⟨r, rfl, q1, q2⟩
   exact ⟨r, rfl, ⟨1, rfl, q1.up⟩, h'.later q2⟩
  | true =>
   cases hq : (s.at a)[ix (s.at a) p.c]? with
   | none =>
    have G : s.get (a : Int) (b : Int) p.c = (Prt.zero, 7) := by unfold SD.get; rw [ha, Int.toNat_natCast, hq]; rfl
    have E : s.put (a : Int) (b : Int) p = (Prt.zero, 7, s) := by unfold SD.put; rw [ha, hf, G]; rfl
    rw [E]
    refine (So.put_none h.p hE' hal p hf (ix_none hq)).mono ?_
    rintro e w' ⟨r, rfl, q1, q2⟩
    exact ⟨r, rfl, ⟨7, rfl, q1.up⟩, h'.later q2⟩
   | some q =>
    obtain ⟨hqm, hqc⟩ := ix_some hq
    have G : s.get (a : Int) (b : Int) p.c = (q, 0) := by unfold SD.get; rw [ha, Int.toNat_natCast, hq]; rfl
    have E : s.put (a : Int) (b : Int) p = (q, 0, rowed s a (putP (s.at a) p)) := by unfold SD.put; rw [ha, hf, G, Int.toNat_natCast]; rfl
    rw [E]
    refine (So.put_ok h.p hE' hal p q hf hp hqm hqc).mono ?_
    rintro e w' ⟨rfl, c', k1, k2, -, k3⟩
    exact ⟨_, rfl, ⟨0, rfl, Er.none _ _⟩, c', x, h.goP k1 (by omega) k3⟩
theorem p_set (h : Ex W1 sb ub s u t gv gl fr w) (hE : Env8 W1 Ad) (i g comp cell value frame : Int) (hi : I64 i) (hg : I64 g) (hc : I64 comp) (hfr : I64 frame) :
  Calls Tryz.prog 27 #[.pointer (some ⟨sb, 0, none⟩), .agg #[.int .i64 i, .int .i64 g], .int .i64 comp, .int .i64 cell, .int .i64 value, .int .i64 frame] w fun e w' => ∃ ev, e = .returned (.tuple #[(s.setp i g comp cell value frame).1.val, ev]) ∧ En Ad w' ev (s.setp i g comp cell value frame).2.1 ∧ Ex W1 sb ub (s.setp i g comp cell value frame).2.2 u t gv gl fr w' := by
 have h' := h
 obtain ⟨c, x, h⟩ := h
 have tt := h.tt
 have hE' := hE.later h.bel
 cases ha : s.r.aliveB i g with
 | false =>
  have G : s.get i g comp = (Prt.zero, 17) := by unfold SD.get; rw [ha]; rfl
  have E : s.setp i g comp cell value frame = (Prt.zero, 17, s) := by unfold SD.setp; rw [G]; rfl
  rw [E]
  refine (So.set_out (So.nofind_dead Ad h.p hE' i g hi hg ha) (by omega) comp cell value frame).mono ?_
  rintro e w' ⟨r, rfl, q1, q2⟩
  exact ⟨r, rfl, ⟨17, rfl, q1.up⟩, h'.later q2⟩
 | true =>
  obtain ⟨a, b, rfl, rfl, hal⟩ := alive_al ha
  cases hq : (s.at a)[ix (s.at a) comp]? with
  | none =>
   have G : s.get (a : Int) (b : Int) comp = (Prt.zero, 7) := by unfold SD.get; rw [ha, Int.toNat_natCast, hq]; rfl
   have E : s.setp (a : Int) (b : Int) comp cell value frame = (Prt.zero, 7, s) := by unfold SD.setp; rw [G]; rfl
   rw [E]
   refine (So.set_none h.p hE' hal comp hc (ix_none hq) cell value frame).mono ?_
   rintro e w' ⟨r, rfl, q1, q2⟩
   exact ⟨r, rfl, ⟨7, rfl, q1.up⟩, h'.later q2⟩
  | some q =>
   obtain ⟨hqm, rfl⟩ := ix_some hq
   have G : s.get (a : Int) (b : Int) q.c = (q, 0) := by unfold SD.get; rw [ha, Int.toNat_natCast, hq]; rfl
   obtain ⟨n, j, m, own, y, A⟩ := h.p.stands hal (by simp)
   have hok := A.ok.1.2 q hqm
   obtain ⟨cc, hcc⟩ : ∃ cc : Nat, q.c = (cc : Int) := ⟨q.c.toNat, by omega⟩
   obtain ⟨wd, hwd⟩ : ∃ wd, s.ws[cc]? = some wd := ⟨s.ws[cc]'(by omega), List.getElem?_eq_getElem _⟩
   have GD : s.ws[q.c.toNat]?.getD 0 = wd := by rw [hcc, Int.toNat_natCast, hwd]; rfl
   by_cases hcl : cell < 0 ∨ (wd : Int) ≤ cell
   ·have E : s.setp (a : Int) (b : Int) q.c cell value frame = (Prt.zero, 1, s) := by unfold SD.setp; rw [G, if_pos rfl, GD, if_pos hcl]
    rw [E]
    refine (So.set_bad h.p hE' hal q hqm hcc hwd cell value frame hcl).mono ?_
    rintro e w' ⟨r, rfl, q1, q2⟩
    exact ⟨r, rfl, ⟨1, rfl, q1.up⟩, h'.later q2⟩
   ·obtain ⟨z, rfl⟩ : ∃ z : Nat, cell = (z : Int) := ⟨cell.toNat, by omega⟩
    have hw4 := h.p.okw.2 wd (List.mem_of_getElem? hwd)
    have hf : fitP s.ws (setQ q z value frame) = true := by
     rw [fit_in (p := setQ q z value frame) hcc hwd]
     show ((So.pt q).put z value frame).fitB wd = true
     rw [Co.Pt.put_fit _ hw4.2 (by omega)]
     have := (A.ok.2 q hqm).1
     rw [fit_in hcc hwd] at this
     exact this
    have P : s.put (a : Int) (b : Int) (setQ q z value frame) = (q, 0, rowed s a (putP (s.at a) (setQ q z value frame))) := by
     unfold SD.put
     rw [ha, hf, show s.get (a : Int) (b : Int) (setQ q z value frame).c = (q, 0) from G, Int.toNat_natCast]
     rfl
    have E : s.setp (a : Int) (b : Int) q.c (z : Int) value frame = (q, 0, rowed s a (putP (s.at a) (setQ q z value frame))) := by
     unfold SD.setp
     rw [G, if_pos rfl, GD, if_neg hcl, Int.toNat_natCast]
     exact P
    rw [E]
    refine (So.set_ok h.p hal q hqm hcc hwd z (by omega) value frame hfr).mono ?_
    rintro e w' ⟨rfl, c', k1, k2, -, k3⟩
    exact ⟨_, rfl, ⟨0, rfl, Er.none _ _⟩, c', x, h.goP k1 (by omega) k3⟩
end
end Rs
end Go.Proofs.YtnlcbheidiigaaaGreatDoor
