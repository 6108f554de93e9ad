/- Texts in one. -/
import Derived.Shelf.Abstract
import Derived.Deep.QuietTactic
import Derived.BigQuiet
import Derived.Test.YtoafpfheopgdkaaGreatDoorMae
namespace Go.Proofs.YtoafpfheopgdkaaGreatDoor.So
open Go.RowKit Go.Shelf Go.Maps
open Go.Proofs.YtoafpfheopgdkaaGreatDoor.Co (I64 Pt Col CS I64_mid)
open Go.Proofs.YtoafpfheopgdkaaGreatDoor.At (St bAl cell_blk blk_seen blk_free lst lst_mem an wi wo add Atl Ints pow_le)
open Go.Proofs.YtoafpfheopgdkaaGreatDoor.Ro (RS Rol Ents entCells entCells_len)
open Go.Proofs.YtoafpfheopgdkaaGreatDoor.Rs (Prt SD okL okW okC fitP mskP mskP_snoc PRow st_ro ro_st)
theorem msk_next {l : List Prt} {k : Nat} {p : Prt} {c : Nat} (hp : l[k]? = some p) (hc : p.c = (c : Int)) : mskP (l.take (k + 1)) = wi (mskP (l.take k)) c := by
  have e : l.take (k + 1) = l.take k ++ [p] := by
    obtain ⟨hl, rfl⟩ := List.getElem?_eq_some_iff.1 hp
    exact List.take_succ_eq_append_getElem hl
  rw [e, mskP_snoc, hc]
  rfl
theorem tab_bound {ex : Option Nat} {B : Nat} {W : World} {sb : Nat} {c : CV} {s : SD} (h : Sto ex B W sb c s) : ∀ n b, tabMap c.tab c.tv n = some b → n < 70000 := by
  intro n b e
  unfold tabMap at e
  cases q : c.tab n with
  | none => rw [q] at e; cases e
  | some own =>
    obtain ⟨m, h1, -⟩ := h.tabs n own q
    have := (List.getElem?_eq_some_iff.1 h1).1
    have := h.atl.ok.small
    simp at this
    omega
theorem keep_two {w : World} {sv a b : Nat} {x y : Value} {p : Addr} {u : Value} (h : w.cell? p = some u) (hn : p.block ≠ sv) : ((w.setCell ⟨sv, a, none⟩ x).setCell ⟨sv, b, none⟩ y).cell? p = some u :=
  st_cell (St.setCell (S := fun k => k = sv) (p := ⟨sv, b, none⟩) y rfl) (st_cell (St.setCell (S := fun k => k = sv) (p := ⟨sv, a, none⟩) x rfl) h hn) hn
set_option maxHeartbeats 6400000 in
set_option maxRecDepth 100000 in
theorem enter_any {B : Nat} {W : World} {sb : Nat} {c : CV} {s : SD} {i g : Nat} (h : Sto (some i) B W sb c s) (ha : al s i g) {v : Value} {l l' : List Prt} (hv : PRowOut (fun k => c.f k ≠ (0, 0, 0)) W v l) (hp : l.Perm l') (hl : okE s.ws l') :
    Calls Tryz.prog 37 #[.pointer (some ⟨sb, 0, none⟩), .agg #[.int .i64 (i : Int), .int .i64 (g : Int)], v] W fun e W' => e = .returned (.tuple #[]) ∧ ∃ c', Sto none B W' sb c' (entered s i l') ∧ c'.t = c.t ∧ Gw c c' W W' := by
  obtain ⟨va, vc, rfl, -⟩ := id hv
  have hl16 : l.length ≤ 16 := by rw [hp.length_eq]; exact Rs.okL_few hl.1 h.okw.1
  have hli : (l.length : Int) ≤ 16 := by omega
  have HOK : Hid (∀ p ∈ l, 0 ≤ p.c ∧ p.c < (s.ws.length : Int)) := fun p q => hl.1.2 p (hp.mem_iff.1 q)
  have hw16 := h.okw.1
  obtain ⟨w1, hw1⟩ : ∃ w1, w1 = W.alloc (.cells #[.int .i64 (i : Int), .int .i64 (g : Int)] 58) := ⟨_, rfl⟩
  have HW1 := hid hw1
  have B1 : Hid (Below W.heap.size W w1) := by rw [hw1]; exact bAl _ _
  have E1 : Hid (w1.heap[W.heap.size]? = some (.cells #[.int .i64 (i : Int), .int .i64 (g : Int)] 58 (0, 0))) := by rw [hw1]; exact heap_alloc_new W _
  have HV := hid hv.more
  have H := hid h
  have HA := hid ha
  have HP := hid hp
  have HL := hid hl
  clear hw1 h ha hp hl hv
  go_enter Tryz.func37, Tryz.ntmps37
  go_wp2_with fail
  rw [← HW1.out]
  go_loopg [6, 8, 15] l.length (fun gh sv _ q wr => ∃ k m : Nat, k ≤ l.length ∧ gh = l.length - k ∧ q = .int .i64 (k : Int) ∧ sv = .int .u32 (m : Int) ∧ Hid (m = mskP (l.take k)) ∧ Hid (m < 65536) ∧ Hid (Below w1.heap.size w1 wr))
  case atStart => exact ⟨0, 0, Nat.zero_le _, rfl, rfl, rfl, rfl, (show (0 : Nat) < 65536 by decide), Below.refl _ _⟩
  case round =>
    obtain ⟨k, m, hk, rfl, rfl, rfl, HM, HM6, HB⟩ := hrel
    by_cases hlt : k < l.length
    · have hki : (k : Int) < (l.length : Int) := by omega
      obtain ⟨p, hp⟩ := at_lt l k hlt
      have hrow := (HV.out.kept (T := fun _ => False) (St.of_below (B1.out.trans (HB.out.mono B1.out.size))) fun _ q => q.elim).at hp
      obtain ⟨b, o, rfl, d0, d1, d2, d3, d4, d5⟩ := hrow
      have hok := HOK.out p (List.mem_of_getElem? hp)
      obtain ⟨cc, hc⟩ : ∃ cc : Nat, p.c = (cc : Int) := ⟨p.c.toNat, by omega⟩
      have hc16 : cc < 16 := by omega
      have WI := hid (fun w => At.with_in m cc (by have := HM6.out; omega) (by omega) w)
      have HN : Hid (wi m cc = mskP (l.take (k + 1))) := by show _ = _; rw [msk_next hp hc, ← HM.out]
      have HN6 : Hid (wi m cc < 65536) := At.wi_lt (n := 16) HM6.out hc16
      have HB' : Hid (Below w1.heap.size w1 (wr.alloc (.cells #[.int .i64 (cc : Int), .int .i64 p.v0, .int .i64 p.v1, .int .i64 p.v2, .int .i64 p.v3, .int .i64 p.t] 71))) := HB.out.alloc HB.out.size _
      clear hp hok HM HM6
      generalize wi m cc = m2 at *
      go_wp2_with (go_at_call 70; refine (WI.out _).mono ?_; rintro e w2 ⟨rfl, rfl⟩)
      go_roundg (l.length - (k + 1))
      case measure => omega
      case rel => exact ⟨k + 1, m2, by omega, rfl, by go_num, rfl, HN.out, HN6.out, HB'.out⟩
    · have hki : ¬ ((k : Int) < (l.length : Int)) := by omega
      obtain rfl : k = l.length := by omega
      have hM : Hid (m = mskP l) := by show _ = _; rw [HM.out, List.take_length]
      have B2 := hid (B1.out.trans (HB.out.mono B1.out.size))
      have H2 := hid (H.out.later B2.out)
      have c1 := H2.out.c1
      have hm2 : m < 2 ^ s.ws.length := by rw [hM.out]; exact msk_lt HOK.out
      have AT := hid (At.at_ok H2.out.atl m hm2)
      have E2 := hid (blk_seen HB.out (Nat.le_refl _) E1.out)
      have R2 := hid (HV.out.kept (T := fun _ => False) (St.of_below B2.out) fun _ q => q.elim)
      clear HM HB
      go_wp2_with fail
      refine AT.out.mono ?_
      rintro e w3 ⟨rfl, S3, q1, q2, q3⟩
      obtain ⟨f3, h3, g3⟩ := H2.out.note (m := m) q1 q2 q3
      have H3 := hid h3
      have G3 := hid ((Gw.of_below (c := c) B2.out).trans g3)
      have hs3 : St (fun k => c.f k ≠ (0, 0, 0)) wr w3 := g3.st
      have E3 : Hid (w3.heap[W.heap.size]? = some (.cells #[.int .i64 (i : Int), .int .i64 (g : Int)] 58 (0, 0))) := hs3.at E2.out fun q => by have := (H.out.lt _ q).2; omega
      have R3 := hid (R2.out.kept hs3 fun k q => .inl q)
      have O3 : Hid (f3 W.heap.size = (0, 0, 0)) := by
        refine Classical.byContradiction fun q => ?_
        rcases g3.new W.heap.size q with q' | q'
        · have := (H.out.lt _ q').2; omega
        · have := (Array.getElem?_eq_some_iff.1 E2.out).1; omega
      have hset : (add s.sets m)[s.sets.idxOf m]? = some m := At.add_get _ _
      have hnb : s.sets.idxOf m ≤ 65536 := Nat.le_trans (At.idx_le _ _) (by have := H.out.atl.ok.small; simpa using this)
      have HSET := hid hset
      obtain ⟨n, hn⟩ : ∃ n, n = s.sets.idxOf m := ⟨_, rfl⟩
      rw [← hn] at HSET hnb ⊢
      have HN := hid hn
      have LK := h3.look_ok (n : Int) (I64_mid (by omega) (by omega))
      rw [lk_nat] at LK
      obtain ⟨y, hy⟩ : ∃ y, y = tabMap c.tab c.tv n := ⟨_, rfl⟩
      have hy' : tabMap c.tab c.tv n = y := hy.symm
      change (Instr.lookup 89 (.map (some c.tm)) (.int .i64 (n : Int)) true).run Tryz.prog w3 = .ok (.tuple #[ptrV (tabMap c.tab c.tv n), .bool (tabMap c.tab c.tv n).isSome]) w3 at LK
      rw [hy'] at LK
      have HY := hid hy
      have c2 : w3.cell? ⟨sb, 2, none⟩ = some (.map (some c.tm)) := h3.c2
      obtain ⟨pv, hpv⟩ : ∃ pv, pv = ptrV y := ⟨_, rfl⟩
      obtain ⟨pb, hpb⟩ : ∃ pb, pb = y.isSome := ⟨_, rfl⟩
      rw [← hpv, ← hpb] at LK
      have HPV := hid hpv
      have HPB := hid hpb
      clear hy hy' hpv hpb h3 g3 q1 q2 q3 hs3 hset hn E2 R2 AT c1
      go_upto_if 43 with fail
      go_cut [11] (fun s11 wx => ∃ x own f5, s11 = .pointer (some ⟨x.tb, 0, none⟩) ∧ Hid (En B W sb c s i g n m (.slice va l.length vc) l x own f5 wx))
      case first =>
        cases q : c.tab n with
        | none =>
          have hy : y = none := by rw [HY.out]; unfold tabMap; rw [q]; rfl
          obtain rfl : pb = false := by rw [HPB.out, hy]; rfl
          have hwd := H3.out.wd
          have c0 : w3.cell? ⟨sb, 0, none⟩ = some c.wv := H3.out.c0
          obtain ⟨wa, wcc, hwv⟩ := hwd.slice
          change c.wv = _ at hwv
          have NT := hid (newtable_any (B := B) w3 f3 n m s.ws c.wv H3.out.big (fun k hk => (H3.out.lt k hk).2) (fun k hk => H3.out.only k n hk q) hm2 H3.out.okw hwd)
          have TBD := hid (tab_bound H3.out)
          rw [hwv] at c0 NT
          clear HY HPV HPB hy LK hwd
          go_wp2_with fail
          refine NT.out.mono ?_
          rintro e w4 ⟨x, rfl, f4, ht, hr, hb⟩
          have H4 := H3.out.later hb
          obtain ⟨w5, hmu, hp5, hs5⟩ := H4.map.store Tryz.underlying89 TBD.out n x.tb (by omega)
          have c2' : w4.cell? ⟨sb, 2, none⟩ = some (.map (some c.tm)) := H4.c2
          have FR := H3.out.fresh HSET.out ht hr hb hp5 hs5 q
          have hlt3 : W.heap.size < w3.heap.size := (Array.getElem?_eq_some_iff.1 E3.out).1
          have htm : c.tm < W.heap.size := (H.out.lt _ (by rw [H.out.ftm]; simp)).2
          have EN : Hid (En B W sb c s i g n m (.slice va l.length vc) l x [] f4 w5) := by
            refine ⟨FR.1, .inr ⟨q, rfl⟩, G3.out.trans FR.2, hs5.at (blk_seen hb (Nat.le_refl _) E3.out) (by show ¬ W.heap.size = c.tm; omega), (R3.out.kept (T := fun _ => False) (St.of_below hb) fun _ q => q.elim).kept hs5 fun k e => .inl (by rw [e, H.out.ftm]; simp), ?_⟩
            refine Classical.byContradiction fun q' => ?_
            by_cases e : cls n (f4 W.heap.size)
            · rcases hr.new _ e with e' | e'
              · rw [O3.out] at e'; exact cls_zero n e'
              · omega
            · have := (hr.out _ q' e W.heap.size).1 rfl
              rw [O3.out] at this
              exact q' this.symm
          clear ht hr hb hp5 hs5 FR H4 NT c2 c0
          go_wp2_with fail
          go_meet
          exact ⟨x, [], f4, rfl, EN.out⟩
        | some own =>
          have hy : y = some (c.tv n).tb := by rw [HY.out]; unfold tabMap; rw [q]; rfl
          obtain rfl : pb = true := by rw [HPB.out, hy]; rfl
          obtain rfl : pv = .pointer (some ⟨(c.tv n).tb, 0, none⟩) := by rw [HPV.out, hy]; rfl
          clear HY HPV HPB hy LK
          go_wp2_with fail
          go_meet
          exact ⟨c.tv n, own, f3, rfl, ⟨H3.out.out (c := { c with f := f3 }) q HSET.out, .inl q, G3.out, E3.out, R3.out, O3.out⟩⟩
      case rest =>
        obtain ⟨x, own, f5, rfl, HE⟩ := hcut
        have hof : own.length ≤ 64 := by
          rcases HE.out.hown with q | ⟨_, rfl⟩
          · exact Nat.le_trans (HE.out.sx.lk.few (n := n) q) HE.out.sx.rol.small
          · simp
        have hi := al_lt HA.out
        have hsl : i < c.seat.length := by have := HE.out.sx.lk.len; change c.seat.length = s.r.gens.length at this; omega
        have hsi : (i : Int) < (c.seat.length : Int) := by omega
        obtain ⟨p0, hp0'⟩ := at_lt c.seat i hsl
        have hp0 := hid hp0'
        have nsb : sb ≠ c.sv := fun e => by
          have := H.out.box
          rw [e, H.out.seats] at this
          simp at this
        have nsW : W.heap.size ≠ c.sv := by have := (H.out.lt _ (by rw [H.out.fsv]; simp)).2; omega
        clear hp0'
        have hwlt : W.heap.size < wc.heap.size := (Array.getElem?_eq_some_iff.1 HE.out.ent).1
        have RW : Hid (PRowOut (fun k => cls n (f5 k)) wc (.slice va l.length vc) l) := HE.out.row.mono fun k q => HE.out.gw.new k (cls_ne q).1
        have OKP : Hid (∀ p ∈ l, 0 ≤ p.c ∧ p.c < 16 ∧ m.testBit p.c.toNat = true ∧ fitP s.ws p = true ∧ I64 p.t) := fun p hp => by
          have h1 := HOK.out p hp
          have h2 := HL.out.2 p (HP.out.mem_iff.1 hp)
          refine ⟨h1.1, by omega, ?_, h2.1, h2.2⟩
          rw [hM.out, msk_mem (fun x hx => (HOK.out x hx).1)]
          exact ⟨p, hp, by omega⟩
        have RL : Hid (∀ q, (rowsOf s own q).length ≤ 100) := fun q => by unfold rowsOf; simp; omega
        have PC : Hid (∀ W', Below wc.heap.size wc W' → Calls Tryz.prog 73 #[.pointer (some ⟨x.tb, 0, none⟩), .agg #[.int .i64 (i : Int), .int .i64 (g : Int)], .slice va l.length vc] W' fun e W2 => e = .returned (.int .i64 (own.length : Int)) ∧ (∃ ov' f6, Sx (some i) B W2 sb { c with f := f6 } { s with sets := add s.sets m } n ⟨x.tb, ov', x.cm, x.cb⟩ m (own ++ [(i, g)]) (pushed (rowsOf s own) l) ∧ Gw c { c with f := f6 } W W2) ∧ W2.heap[W.heap.size]? = some (.cells #[.int .i64 (i : Int), .int .i64 (g : Int)] 58 (0, 0))) := fun W' hb => by
          have hx := HE.out.sx.later hb
          refine (push_any hx.tb (fun k hk => (hx.lt k hk).2) i g (RW.out.kept (T := fun _ => False) (St.of_below hb) fun _ q => q.elim) hl16 OKP.out RL.out (by omega) (by have := hx.lt sb (by rw [hx.fsb]; simp); omega)).mono ?_
          rintro e W2 ⟨rfl, ov', f6, q1, q2, q3⟩
          have R := hx.retab q1 q2 q3
          refine ⟨rfl, ⟨ov', f6, R.1, (HE.out.gw.trans (Gw.of_below hb)).trans R.2⟩, q3.at (blk_seen hb (Nat.le_refl _) HE.out.ent) ?_⟩
          show ¬ cls n (f5 W.heap.size)
          rw [HE.out.out]
          exact cls_zero n
        have KX : Hid (∀ W' f6 ov' own' rows', Sx (some i) B W' sb { c with f := f6 } { s with sets := add s.sets m } n ⟨x.tb, ov', x.cm, x.cb⟩ m own' rows' → W'.heap[W.heap.size]? = some (.cells #[.int .i64 (i : Int), .int .i64 (g : Int)] 58 (0, 0)) → W'.cell? ⟨sb, 4, none⟩ = some (.slice (some ⟨c.sv, 0, none⟩) c.seat.length c.seat.length) ∧ W'.cell? ⟨W.heap.size, 0, none⟩ = some (.int .i64 (i : Int)) ∧ W'.cell? ⟨W.heap.size, 1, none⟩ = some (.int .i64 (g : Int))) :=
          fun W' f6 ov' own' rows' h1 h2 => ⟨cell_blk h1.box rfl, cell_blk h2 rfl, cell_blk h2 rfl⟩
        have KK : Hid (∀ W', Below wc.heap.size wc W' → W'.cell? ⟨sb, 4, none⟩ = some (.slice (some ⟨c.sv, 0, none⟩) c.seat.length c.seat.length) ∧ W'.cell? ⟨W.heap.size, 0, none⟩ = some (.int .i64 (i : Int)) ∧ W'.cell? ⟨W.heap.size, 1, none⟩ = some (.int .i64 (g : Int))) := fun W' hb => KX.out W' f5 x.ov own (rowsOf s own) (HE.out.sx.later hb) (blk_seen hb (Nat.le_refl _) HE.out.ent)
        clear RW OKP RL LK HY HPV HPB H3 G3 E3 R3 O3 HSET
        go_wp2_with fail
        go_region_held3 (fun W' => W'.cell? ⟨sb, 4, none⟩ = some (.slice (some ⟨c.sv, 0, none⟩) c.seat.length c.seat.length) ∧ W'.cell? ⟨W.heap.size, 0, none⟩ = some (.int .i64 (i : Int)) ∧ W'.cell? ⟨W.heap.size, 1, none⟩ = some (.int .i64 (g : Int)))
          (first | exact KK.out _ (Below.refl _ _).drew | exact KK.out _ (Below.refl _ _) | exact K6.out | exact ⟨keep_two K6.out.1 nsb, keep_two K6.out.2.1 nsW, keep_two K6.out.2.2 nsW⟩)
          ((go_at_call 73; refine (PC.out _ (by first | exact (Below.refl _ _).drew | exact Below.refl _ _)).mono ?_; rintro e w6 ⟨rfl, ⟨ov', f6, hx6, hg6⟩, he6⟩; have K6 := hid (KX.out _ _ _ _ _ hx6 he6); have X6 := hid hx6; have G6 := hid hg6; have z0 : w6.cell? ⟨c.sv, i * 2, none⟩ = some (.int .i64 (p0.1 : Int)) := cell_blk hx6.seats (by simpa using (ent_at hp0.out).1); have z1 : w6.cell? ⟨c.sv, i * 2 + 1, none⟩ = some (.int .i64 (p0.2 : Int)) := cell_blk hx6.seats (by simpa using (ent_at hp0.out).2); have y0 : w6.frozen? ⟨c.sv, i * 2, none⟩ = false := blk_free hx6.seats _; have y1 : w6.frozen? ⟨c.sv, i * 2 + 1, none⟩ = false := blk_free hx6.seats _; clear hx6 hg6 he6))
        obtain ⟨w7, hw7⟩ : ∃ w7, w7 = (w6.setCell ⟨c.sv, i * 2, none⟩ (.int .i64 (n : Int))).setCell ⟨c.sv, i * 2 + 1, none⟩ (.int .i64 (own.length : Int)) := ⟨_, rfl⟩
        have FN := hid (HE.out.done HA.out hM.out HN.out HP.out HL.out X6.out G6.out hw7)
        rw [← hw7]
        clear hw7 z0 z1 y0 y1 K6 X6 G6 KK KX PC
        go_end0
        exact ⟨rfl, FN.out⟩
end Go.Proofs.YtoafpfheopgdkaaGreatDoor.So
namespace Go.Proofs.YtoafpfheopgdkaaGreatDoor.So
open Go.RowKit Go.Shelf Go.Maps
open Go.Proofs.YtoafpfheopgdkaaGreatDoor.Co (I64 Pt Col CS I64_mid)
open Go.Proofs.YtoafpfheopgdkaaGreatDoor.At (St bAl cell_blk blk_seen blk_free lst lst_mem an wi wo add Atl Ints pow_le)
open Go.Proofs.YtoafpfheopgdkaaGreatDoor.Ro (RS Rol Ents entCells entCells_len)
open Go.Proofs.YtoafpfheopgdkaaGreatDoor.Rs (Prt Prts SD okL okW okC fitP mskP mskP_snoc PRow st_ro ro_st wpList_prt)
/-- Where each is. -/
structure Ea (W : World) (cs : List Nat) (pr : Nat → Prt) (Inv : Nat → World → Prop) (la : Option Addr) (lc : Nat) (k : Nat) (lv : Value) (wr : World) : Prop where
  inv : Inv k wr
  out : Prts W.heap.size wr lv ((cs.take k).map pr)
  li : Ints W.heap.size wr (.slice la cs.length lc) cs
  st : St (fun k => k < W.heap.size) W wr
theorem ints_ne {B B' : Nat} {W : World} {v u : Value} {l : List Nat} {q : List Prt} (h : Ints B W v l) (h' : Prts B' W u q) {k : Nat} (hv : v.ownBlock = some k) : u.ownBlock ≠ some k := fun hu => by
  obtain ⟨c, e⟩ := own_blk h hv
  obtain ⟨c', e'⟩ := own_blk h' hu
  rw [e] at e'
  simp at e'
set_option maxHeartbeats 3200000 in
set_option maxRecDepth 100000 in
theorem each_any (fk : Nat) (lb : Array Value) (eg : ∀ args w, (callFunc fk args).run Tryz.prog w = .ok (.enter fk args) w) {W : World} (tb cm m : Nat) (cb : Nat → Nat) (pr : Nat → Prt) (Inv : Nat → World → Prop) (hm : m < 65536) (h0 : Inv 0 W) (c0 : W.cell? ⟨tb, 0, none⟩ = some (.int .u32 (m : Int)))
    (hlater : ∀ k w w', Inv k w → Below w.heap.size w w' → Inv k w')
    (hread : ∀ k w, Inv k w → w.cell? ⟨tb, 2, none⟩ = some (.map (some cm)) ∧ ∀ c, m.testBit c = true → (Instr.lookup 125 (.map (some cm)) (.int .i64 ((c : Nat) : Int)) false).run Tryz.prog w = .ok (.pointer (some ⟨cb c, 0, none⟩)) w)
    (hout : ∀ k w w' lv q, Inv k w → W.heap.size ≤ w.heap.size → Prts W.heap.size w lv q → St (fun x => lv.ownBlock = some x) w w' → Inv k w')
    (hstep : ∀ k c w, (lst 32 m)[k]? = some c → Inv k w → W.heap.size ≤ w.heap.size → Calls Tryz.prog fk (#[.pointer (some ⟨cb c, 0, none⟩)] ++ lb) w fun e w' => e = .returned (.tuple #[(pr c).val, .nilIface]) ∧ Inv (k + 1) w' ∧ St (fun k => k < W.heap.size) w w') :
    Calls Tryz.prog 56 #[.pointer (some ⟨tb, 0, none⟩), .func (.func fk) #[] lb] W fun e W' => ∃ v, e = .returned v ∧ Prts W.heap.size W' v ((lst 32 m).map pr) ∧ Inv (lst 32 m).length W' ∧ St (fun k => k < W.heap.size) W W' := by
  have LI := hid (At.list_any m (by omega) W)
  have HS := hid hstep
  have HR := hid hread
  have HLa := hid hlater
  have HO := hid hout
  have H0 := hid h0
  have hln := lst_len32 m
  have HB : Hid (∀ c, c ∈ lst 32 m → m.testBit c = true ∧ c < 32) := fun c hc => ⟨((lst_mem m c 32).1 hc).2, ((lst_mem m c 32).1 hc).1⟩
  clear hstep hread hlater h0 hout
  go_enter Tryz.func56, Tryz.ntmps56
  go_wp2_with fail
  refine LI.out.mono ?_
  rintro e w1 ⟨lv0, rfl, hlv, hb1⟩
  obtain ⟨la, lc, rfl⟩ := hlv.slice
  generalize hcs : lst 32 m = cs at *
  have HCS := hid hcs
  clear hcs
  have E0 : Hid (Ea W cs pr Inv la lc 0 (.slice none 0 0) w1) := ⟨HLa.out 0 W w1 H0.out hb1, World.ownsRow_nil _ _ _ _, hlv, St.of_below hb1⟩
  clear hlv hb1 LI
  have hleni : (cs.length : Int) ≤ 32 := by omega
  go_wp2_with fail
  go_loopg [5, 7, 8, 9, 16] cs.length (fun gh lv _ _ _ q wr => ∃ k : Nat, k ≤ cs.length ∧ gh = cs.length - k ∧ q = .int .i64 (k : Int) ∧ Hid (Ea W cs pr Inv la lc k lv wr))
  case atStart => exact ⟨0, Nat.zero_le _, rfl, rfl, E0.out⟩
  case round =>
    obtain ⟨k, hk, rfl, rfl, HE⟩ := hrel
    by_cases hlt : k < cs.length
    · have hki : (k : Int) < (cs.length : Int) := by omega
      obtain ⟨c, hc⟩ := at_lt cs k hlt
      obtain ⟨g, rfl, -, -⟩ := HE.out.li.some (by omega)
      have x1 := HE.out.li.cell hc
      have hcb := HB.out c (List.mem_of_getElem? hc)
      have x2 := (HR.out k wr HE.out.inv).1
      have x3 := (HR.out k wr HE.out.inv).2 c hcb.1
      have hws : W.heap.size ≤ wr.heap.size := HE.out.st.size
      have ST := hid (HS.out k c wr hc HE.out.inv hws)
      have HT : Hid (cs.take (k + 1) = cs.take k ++ [c]) := by
        obtain ⟨hl, rfl⟩ := List.getElem?_eq_some_iff.1 hc
        exact List.take_succ_eq_append_getElem hl
      obtain ⟨p, hp⟩ : ∃ p, p = pr c := ⟨_, rfl⟩
      rw [← hp] at ST
      have HP := hid hp
      unfold Prt.val at ST
      clear hc hp hcb
      go_wp2_with fail
      refine ST.out.mono ?_
      rintro e w2 ⟨rfl, hi2, hs2⟩
      have I2 := hid hi2
      have S2 := hid hs2
      clear hi2 hs2 ST x1 x2 x3
      obtain ⟨q, hq⟩ : ∃ q, q = (cs.take k).map pr := ⟨_, rfl⟩
      have HQ := hid hq
      have hul : q.length ≤ 1000 := by rw [hq]; simp; omega
      have HEo : Prts W.heap.size wr u5 q := by rw [hq]; exact HE.out.out
      obtain ⟨oa, oc, rfl⟩ := HEo.slice
      have O2 : Hid (Prts W.heap.size w2 (.slice oa q.length oc) q) := HEo.kept S2.out fun y hy e => by have := (HEo.lt y hy).1; omega
      clear hq HEo
      have b3 := bAl w2 (.cells #[.int .i64 p.c, .int .i64 p.v0, .int .i64 p.v1, .int .i64 p.v2, .int .i64 p.v3, .int .i64 p.t] 71)
      obtain ⟨w3, hw3⟩ : ∃ w3, w3 = w2.alloc (.cells #[.int .i64 p.c, .int .i64 p.v0, .int .i64 p.v1, .int .i64 p.v2, .int .i64 p.v3, .int .i64 p.t] 71) := ⟨_, rfl⟩
      have y := heap_alloc_new w2 (.cells #[.int .i64 p.c, .int .i64 p.v0, .int .i64 p.v1, .int .i64 p.v2, .int .i64 p.v3, .int .i64 p.t] 71)
      rw [← hw3] at b3 y
      have B3 := hid b3
      have O3 := hid (O2.out.later b3)
      have y0 := cell_blk y (j := 0) rfl
      have y1 := cell_blk y (j := 1) rfl
      have y2 := cell_blk y (j := 2) rfl
      have y3 := cell_blk y (j := 3) rfl
      have y4 := cell_blk y (j := 4) rfl
      have y5 := cell_blk y (j := 5) rfl
      have hsz3 : W.heap.size ≤ w3.heap.size := Nat.le_trans hws (Nat.le_trans S2.out.size b3.size)
      have HW3 := hid hw3
      clear b3 y hw3 O2
      go_upto_region 6 with fail
      rw [← HW3.out]
      go_wp2_with (at_builtin; refine wpList_prt (p := p) rfl _ _ rfl O3.out hul hsz3 rfl rfl ?_; intro v4 w4 H4 S4)
      go_roundg (cs.length - (k + 1))
      case measure => omega
      case rel =>
        refine ⟨k + 1, by omega, rfl, by go_num, ⟨?_, ?_, ?_, ?_⟩⟩
        · exact HO.out (k + 1) w3 w4 _ _ (HLa.out _ _ _ I2.out B3.out) hsz3 O3.out S4.out
        · rw [HT.out, List.map_append, List.map_cons, List.map_nil, ← HP.out, ← HQ.out]
          exact H4.out
        · have l2 : Ints W.heap.size w3 (.slice (some ⟨g, 0, none⟩) cs.length lc) cs := Ints.later (own_kept HE.out.li S2.out fun y hy q => by have := (HE.out.li.lt y hy).1; omega) B3.out
          exact own_kept l2 S4.out fun y hy q => ints_ne l2 O3.out hy q
        · refine ((HE.out.st.trans S2.out fun _ _ q => q).trans (St.of_below (S := fun _ => False) B3.out) fun _ _ q => q.elim).trans S4.out fun y hy q => ?_
          exact hy
    · have hki : ¬ ((k : Int) < (cs.length : Int)) := by omega
      obtain rfl : k = cs.length := by omega
      have hd := HE.out
      go_wp2_with fail
      go_ret
      have ho := hd.out
      rw [List.take_length] at ho
      refine ⟨_, rfl, ?_⟩
      rw [HCS.out]
      exact ⟨ho, hd.inv, hd.st⟩
end Go.Proofs.YtoafpfheopgdkaaGreatDoor.So
namespace Go.Proofs.YtoafpfheopgdkaaGreatDoor.So
open Go.RowKit Go.Shelf Go.Maps
open Go.Proofs.YtoafpfheopgdkaaGreatDoor.Co (I64 Pt Col CS I64_mid lies put6_blk put6_st put6)
open Go.Proofs.YtoafpfheopgdkaaGreatDoor.At (St bAl cell_blk blk_seen blk_free)
section
variable {B : Nat} {W : World} {rb : Nat} {s : CS} {S : Nat → Prop}
set_option maxHeartbeats 1600000 in
set_option maxRecDepth 100000 in
theorem row1_any (h : Col B W rb s S) (n : Nat) (p : Pt) (hp : s.rows[n]? = some p) (xb : Nat) (hx : W.cell? ⟨xb, 0, none⟩ = some (.int .i64 (n : Int))) :
    Calls Tryz.prog 57 #[.pointer (some ⟨rb, 0, none⟩), .pointer (some ⟨xb, 0, none⟩)] W fun e W' => e = .returned (.tuple #[p.val s.comp, .nilIface]) ∧ Below W.heap.size W W' := by
  obtain ⟨W1, hW1⟩ : ∃ W1, W1 = W.alloc (.cells #[.int .i64 0, .int .i64 0, .int .i64 0, .int .i64 0, .int .i64 0, .int .i64 0] 71) := ⟨_, rfl⟩
  have b1 : Below W.heap.size W W1 := by rw [hW1]; exact bAl _ _
  have r1 : W1.heap[W.heap.size]? = some (.cells (Pt.zero.arr 0) 71 (0, 0)) := by rw [hW1]; exact heap_alloc_new W _
  have x1 : W1.cell? ⟨xb, 0, none⟩ = some (.int .i64 (n : Int)) := At.seen b1 (Nat.le_refl _) hx
  have TK := hid (Co.col_row (h.later b1) n p hp)
  have HW1 := hid hW1
  have B1 := hid b1
  have R1 := hid r1
  unfold Pt.val at TK ⊢
  generalize s.comp = cm at *
  clear h hp hx b1 hW1 r1
  go_enter Tryz.func57, Tryz.ntmps57
  go_upto_region 1 with fail
  rw [← HW1.out]
  go_wp2_with fail
  refine TK.out.mono ?_
  rintro e w2 ⟨rfl, hb⟩
  have B2 := hid (B1.out.trans (hb.mono B1.out.size))
  have r2 : w2.heap[W.heap.size]? = some (.cells (Pt.zero.arr 0) 71 (0, 0)) := blk_seen hb (Nat.le_refl _) R1.out
  have R2 := hid r2
  obtain ⟨x0, x1, x2, x3, x4, x5, f0, f1, f2, f3, f4, f5⟩ := lies r2
  clear hb r2 TK
  go_wp2_with fail
  have PB := put6_blk R2.out rfl cm p
  have PS := put6_st w2 W.heap.size cm p
  unfold put6 at PB PS
  obtain ⟨d0, d1, d2, d3, d4, d5, -, -, -, -, -, -⟩ := lies PB
  generalize (((((w2.setCell ⟨W.heap.size, 0, none⟩ (.int .i64 cm)).setCell ⟨W.heap.size, 1, none⟩ (.int .i64 p.a)).setCell ⟨W.heap.size, 2, none⟩ (.int .i64 p.b)).setCell ⟨W.heap.size, 3, none⟩ (.int .i64 p.c)).setCell ⟨W.heap.size, 4, none⟩ (.int .i64 p.d)).setCell ⟨W.heap.size, 5, none⟩ (.int .i64 p.t) = w3 at *
  exact bodyPost_ret (v := .tuple #[.agg #[.int .i64 cm, .int .i64 p.a, .int .i64 p.b, .int .i64 p.c, .int .i64 p.d, .int .i64 p.t], .nilIface]) (by simp [results, Tryz.results57, go_sem, d0, d1, d2, d3, d4, d5]) rfl ⟨rfl, B2.out.trans (PS.below (B := W.heap.size) (fun k hk => by omega) B2.out.size)⟩
end
end Go.Proofs.YtoafpfheopgdkaaGreatDoor.So
namespace Go.Proofs.YtoafpfheopgdkaaGreatDoor.So
open Go.RowKit Go.Shelf Go.Maps
open Go.Proofs.YtoafpfheopgdkaaGreatDoor.Co (I64 Pt Col CS I64_mid)
open Go.Proofs.YtoafpfheopgdkaaGreatDoor.At (St bAl cell_blk blk_seen blk_free lst lst_mem an wi wo add Atl Ints pow_le)
open Go.Proofs.YtoafpfheopgdkaaGreatDoor.Ro (RS Rol Ents entCells entCells_len)
open Go.Proofs.YtoafpfheopgdkaaGreatDoor.Rs (Prt Prts SD okL okW okC fitP mskP mskP_snoc PRow st_ro ro_st)
/-- A row taken out: the last one comes in its place. -/
def tk (r : List Pt) (j : Nat) : List Pt := (r.set j (r.getD (r.length - 1) Pt.zero)).dropLast
def rowsT (rows : Nat → List Pt) (j : Nat) (l : List Nat) (c : Nat) : List Pt := if c ∈ l then tk (rows c) j else rows c
section
variable {B : Nat} {W W' : World} {f : Nat → Nat × Nat × Nat} {n : Nat} {x : TV} {m : Nat} {ws : List Nat} {own : List (Nat × Nat)} {rows : Nat → List Pt}
theorem Tb.colsame (h : Tb B W f n x m ws own rows) {c w : Nat} (hw : ws[c]? = some w) {r' : List Pt} (hcol : Col B W' (x.cb c) ⟨(c : Int), w, r'⟩ (fun k => f k = (5, n, c))) (hs : St (fun k => f k = (5, n, c)) W W') : Tb B W' f n x m ws own (fun c' => if c' = c then r' else rows c') := by
  have e4 : ∀ k, f k = (4, n, 0) → ¬ f k = (5, n, c) := fun k hk e => by rw [hk] at e; simp at e
  refine ⟨hs.at h.box (e4 _ h.ftb), own_kept h.own hs fun k hk => e4 k (h.fov hk), h.map.kept hs (e4 _ h.fcm), fun c' hc' => ?_, h.fp, h.low⟩
  by_cases e : c' = c
  · subst e
    refine ⟨w, hw, ?_⟩
    rw [if_pos rfl]
    exact hcol
  · obtain ⟨w', q1, q2⟩ := h.col c' hc'
    refine ⟨w', q1, ?_⟩
    rw [if_neg e]
    exact q2.kept (co_st hs) fun k hk q => by rw [hk] at q; simp at q; exact e q
theorem rowsT_next (rows : Nat → List Pt) (j : Nat) {cs : List Nat} {k c : Nat} (hc : cs[k]? = some c) : rowsT rows j (cs.take (k + 1)) = fun c' => if c' = c then tk (rows c) j else rowsT rows j (cs.take k) c' := by
  have e : cs.take (k + 1) = cs.take k ++ [c] := by
    obtain ⟨hl, rfl⟩ := List.getElem?_eq_some_iff.1 hc
    exact List.take_succ_eq_append_getElem hl
  funext c'
  unfold rowsT
  rw [e]
  by_cases q : c' = c
  · subst q; simp
  · simp [q]
/-- A table behind its owners' row, changed in its place. -/
theorem Tb.ovset (h : Tb B W f n x m ws own rows) {ov' : Value} {own' : List (Nat × Nat)} (hov : ov'.ownBlock = x.ov.ownBlock) (hs : St (fun k => f k = (4, n, 0)) W W') (hbox : W'.heap[x.tb]? = some (.cells #[.int .u32 (m : Int), ov', .map (some x.cm)] 127 (0, 0))) (hmap : PMap W' x.cm (colMap m x.cb)) (ho : Ents B W' ov' own') :
    Tb B W' f n ⟨x.tb, ov', x.cm, x.cb⟩ m ws own' rows := by
  refine ⟨hbox, ho, hmap, fun c hc => ?_, fun k => ?_, h.low⟩
  · obtain ⟨w', q1, q2⟩ := h.col c hc
    exact ⟨w', q1, q2.kept (co_st hs) fun k hk q => by rw [hk] at q; simp at q⟩
  · rw [h.fp k, ← hov]
end
theorem ent_take (l : List (Nat × Nat)) (k : Nat) : (entCells l).take (k * 2) = entCells (l.take k) := by
  induction l generalizing k with
  | nil => simp [entCells]
  | cons a l ih =>
    have e : ∀ (q : Nat × Nat) l, entCells (q :: l) = Ro.gI q.1 :: Ro.gI q.2 :: entCells l := fun q l => by simp [entCells]
    cases k with
    | zero => simp [entCells]
    | succ k =>
      rw [e, List.take_succ_cons, e, show (k + 1) * 2 = k * 2 + 1 + 1 by omega, List.take_succ_cons, List.take_succ_cons, ih]
theorem taken_cells {cur : List Value} {own : List (Nat × Nat)} {j : Nat} {y : Nat × Nat} (hc : cur.take (own.length * 2) = entCells own) :
    ((cur.set (j * 2) (Ro.gI y.1)).set (j * 2 + 1) (Ro.gI y.2)).take ((own.length - 1) * 2) = entCells (taken own j y) := by
  unfold taken
  rw [List.dropLast_eq_take, ← ent_take, List.length_set, ent_set, ← hc, List.take_set, List.take_set, List.take_set, List.take_set, List.take_take, Nat.min_eq_left (by omega)]
end Go.Proofs.YtoafpfheopgdkaaGreatDoor.So
namespace Go.Proofs.YtoafpfheopgdkaaGreatDoor.So
open Go.RowKit Go.Shelf Go.Maps
open Go.Proofs.YtoafpfheopgdkaaGreatDoor.Co (I64 Pt Col CS I64_mid)
open Go.Proofs.YtoafpfheopgdkaaGreatDoor.At (St bAl cell_blk blk_seen blk_free lst lst_mem an wi wo add Atl Ints pow_le)
open Go.Proofs.YtoafpfheopgdkaaGreatDoor.Ro (RS Rol Ents entCells entCells_len)
open Go.Proofs.YtoafpfheopgdkaaGreatDoor.Rs (Prt Prts SD okL okW okC fitP mskP mskP_snoc PRow st_ro ro_st)
/-- What holds of the table while its columns are taken from. -/
structure Tk (B : Nat) (W W1 : World) (f : Nat → Nat × Nat × Nat) (n : Nat) (x : TV) (m : Nat) (ws : List Nat) (own : List (Nat × Nat)) (rows : Nat → List Pt) (j k : Nat) (w : World) : Prop where
  tb : Tb B w f n x m ws own (rowsT rows j ((lst 32 m).take k))
  st : St (fun k => cls n (f k)) W1 w
  cell : w.heap[W.heap.size]? = some (.cells #[.int .i64 (j : Int)] 3 (0, 0))
theorem cells_of {cur : Array Value} {own : List (Nat × Nat)} {j : Nat} {p : Nat × Nat} (hc : cur.toList.take (own.length * 2) = entCells own) (hj : own[j]? = some p) : cur[j * 2]? = some (.int .i64 (p.1 : Int)) ∧ cur[j * 2 + 1]? = some (.int .i64 (p.2 : Int)) := by
  have hl := (List.getElem?_eq_some_iff.1 hj).1
  have h := ent_at hj
  rw [← hc, List.getElem?_take_of_lt (by omega), List.getElem?_take_of_lt (by omega)] at h
  simpa using h
theorem keep_last {w : World} {g j last : Nat} {a b : Value} {cur : Array Value} {ty : TypeId} (h : w.heap[g]? = some (.cells cur ty (0, 0))) (c0 : cur[last * 2]? = some a) (c1 : cur[last * 2 + 1]? = some b) :
    ((w.setCell ⟨g, j * 2, none⟩ a).setCell ⟨g, j * 2 + 1, none⟩ b).cell? ⟨g, last * 2, none⟩ = some a ∧ ((w.setCell ⟨g, j * 2, none⟩ a).setCell ⟨g, j * 2 + 1, none⟩ b).cell? ⟨g, last * 2 + 1, none⟩ = some b := by
  have h1 := heap_setCell_same w g (j * 2) cur ty a h
  have h2 := heap_setCell_same _ g (j * 2 + 1) _ ty b h1
  have l0 := (Array.getElem?_eq_some_iff.1 c0).1
  have l1 := (Array.getElem?_eq_some_iff.1 c1).1
  refine ⟨cell_blk h2 ?_, cell_blk h2 ?_⟩
  · rw [Array.getElem?_setIfInBounds, if_neg (by omega), Array.getElem?_setIfInBounds]
    by_cases e : j = last
    · rw [if_pos (by omega), if_pos (by omega)]
    · rw [if_neg (by omega)]; exact c0
  · rw [Array.getElem?_setIfInBounds]
    by_cases e : j = last
    · rw [if_pos (by omega), if_pos (by simpa using (by omega))]
    · rw [if_neg (by omega), Array.getElem?_setIfInBounds, if_neg (by omega)]; exact c1
end Go.Proofs.YtoafpfheopgdkaaGreatDoor.So
namespace Go.Proofs.YtoafpfheopgdkaaGreatDoor.So
open Go.RowKit Go.Shelf Go.Maps
open Go.Proofs.YtoafpfheopgdkaaGreatDoor.Co (I64 Pt Col CS I64_mid)
open Go.Proofs.YtoafpfheopgdkaaGreatDoor.At (St bAl cell_blk blk_seen blk_free lst lst_mem an wi wo add Atl Ints pow_le)
open Go.Proofs.YtoafpfheopgdkaaGreatDoor.Ro (RS Rol Ents entCells entCells_len)
open Go.Proofs.YtoafpfheopgdkaaGreatDoor.Rs (Prt Prts SD okL okW okC fitP mskP mskP_snoc PRow st_ro ro_st)
theorem decol (f : Nat → Nat × Nat × Nat) (n N : Nat) (hlt : ∀ k, f k ≠ (0, 0, 0) → k < N) : ∃ f', (∀ k, ¬ cls n (f' k)) ∧ Rec (cls n) f f' N N := by
  classical
  refine ⟨fun k => if cls n (f k) then (0, 0, 0) else f k, fun k => ?_, ⟨fun l h0 hc k => ?_, fun k hk => ?_, fun k hk => ?_⟩⟩
  · show ¬ cls n (if cls n (f k) then (0, 0, 0) else f k)
    by_cases e : cls n (f k)
    · rw [if_pos e]; exact cls_zero n
    · rw [if_neg e]; exact e
  · show (if cls n (f k) then (0, 0, 0) else f k) = l ↔ _
    by_cases e : cls n (f k)
    · rw [if_pos e]
      exact ⟨fun q => absurd q.symm h0, fun q => absurd (q ▸ e) hc⟩
    · rw [if_neg e]
  · change cls n (if cls n (f k) then (0, 0, 0) else f k) at hk
    by_cases e : cls n (f k)
    · exact .inl e
    · rw [if_neg e] at hk; exact .inl hk
  · change (if cls n (f k) then (0, 0, 0) else f k) ≠ (0, 0, 0) at hk
    by_cases e : cls n (f k)
    · rw [if_pos e] at hk; exact absurd rfl hk
    · rw [if_neg e] at hk; exact hlt k hk
theorem tabMap_none (tab : Nat → Option (List (Nat × Nat))) (tv : Nat → TV) (n : Nat) : tabMap (tput tab n none) tv = gput (tabMap tab tv) n none := by
  funext k
  unfold tabMap gput tput
  by_cases e : k = n <;> simp [e]
theorem gput_gput (g : Nat → Option Nat) (n : Nat) (a b : Option Nat) : gput (gput g n a) n b = gput g n b := by
  funext k
  unfold gput
  by_cases e : k = n <;> simp [e]
section
variable {ex ex' : Option Nat} {B : Nat} {W W' : World} {sb : Nat} {c : CV} {s : SD} {n : Nat} {x : TV} {m : Nat} {own : List (Nat × Nat)} {rows : Nat → List Pt}
theorem Sx.drop (h : Sx ex B W sb c s n x m own rows) (hp : PMap W' c.tm (gput (gput (tabMap c.tab c.tv) n (some x.tb)) n none)) (hs : St (fun k => k = c.tm) W W') (hlk : Lk ex' (tput c.tab n none) c.seat s) :
    ∃ f', Sto ex' B W' sb { c with f := f', tab := tput c.tab n none } s ∧ Gw c { c with f := f', tab := tput c.tab n none } W W' ∧ ∀ k, f' k ≠ (0, 0, 0) → c.f k ≠ (0, 0, 0) := by
  obtain ⟨f', d1, d2⟩ := decol c.f n W.heap.size (fun k hk => (h.lt k hk).2)
  have n1 : ¬ cls n (1, 0, 0) := fun q => (cls_ne q).2.1 rfl
  have n2 : ¬ cls n (2, 0, 0) := fun q => (cls_ne q).2.2.1 rfl
  have n3 : ¬ cls n (3, 0, 0) := fun q => (cls_ne q).2.2.2 rfl
  have nt' : ∀ {k : Nat}, c.f k ≠ (1, 0, 0) → k ≠ c.tm := fun q e => q (by rw [e]; exact h.ftm)
  refine ⟨f', ⟨hs.at h.box (h.map.cells_ne h.box), own_kept h.wd hs fun k hk e => ?_, ?_, ?_, hs.at h.seats (h.map.cells_ne h.seats), ?_, ?_, fun k => (d2.out _ (by simp) n1 k).trans (h.fp k), fun k hk => ?_, h.okw, h.n2, hlk, fun k n' hk => ?_, h.small⟩, ⟨⟨hs.os, hs.tape, hs.output, hs.size, fun k hk hn => hs.block k hk fun e => hn ?_⟩, fun k hk => .inl ?_⟩, fun k hk => by rw [(d2.out _ hk (d1 k) k).1 rfl]; exact hk⟩
  · obtain ⟨q, hq⟩ := own_blk h.wd hk
    exact h.map.cells_ne hq e
  · exact atl_congr (h.atl.kept hs fun k hk e => nt' (by rw [hk]; simp) e) fun k => d2.out _ (by simp) n3 k
  · exact rol_congr (h.rol.kept (st_ro hs) fun k hk e => nt' (by rw [hk]; simp) e) fun k => d2.out _ (by simp) n2 k
  · show PMap W' c.tm (tabMap (tput c.tab n none) c.tv)
    rw [tabMap_none, ← gput_gput _ n (some x.tb)]
    exact hp
  · intro n' own' h'
    change tput c.tab n none n' = some own' at h'
    have hne : n' ≠ n := fun e => by rw [e, tput_same] at h'; cases h'
    rw [tput_ne _ hne] at h'
    obtain ⟨m', q1, q2⟩ := h.tabs n' own' hne h'
    exact ⟨m', q1, q2.move hs (fun k hk e => nt' (cls_ne hk).2.1 e) fun l hl k => d2.out l (cls_ne hl).1 (fun q => hne (cls_one hl q)) k⟩
  · have hk' : f' k ≠ (0, 0, 0) := hk
    have := h.lt k (by rw [(d2.out _ hk' (d1 k) k).1 rfl]; exact hk')
    exact ⟨this.1, Nat.lt_of_lt_of_le this.2 hs.size⟩
  · show tput c.tab n none n' ≠ none
    have hne : n' ≠ n := fun e => d1 k (e ▸ hk)
    rw [tput_ne _ hne]
    have hk' : cls n' (f' k) := hk
    refine (h.only k n' (by rw [(d2.out _ (cls_ne hk').1 (d1 k) k).1 rfl]; exact hk')).elim (fun q => absurd q hne) id
  · rw [e, h.ftm]; simp
  · have hk' : f' k ≠ (0, 0, 0) := hk
    rw [(d2.out _ hk' (d1 k) k).1 rfl]; exact hk'
end
theorem rows_taken (s : SD) {own : List (Nat × Nat)} {j : Nat} {y : Nat × Nat} (hy : own[own.length - 1]? = some y) (q : Nat) : rowsOf s (taken own j y) q = tk (rowsOf s own q) j := by
  unfold rowsOf taken tk
  rw [List.map_dropLast, List.map_set]
  congr 2
  rw [List.length_map, List.getD_eq_getElem?_getD, List.getElem?_map, hy]
  rfl
theorem rows_at (s : SD) {own : List (Nat × Nat)} {j i g : Nat} (hj : own[j]? = some (i, g)) (q : Nat) : (rowsOf s own q).getD j Pt.zero = ptAt (s.at i) q := by
  unfold rowsOf
  rw [List.getD_eq_getElem?_getD, List.getElem?_map, hj]
  rfl
theorem parts_left {s : SD} {i g j : Nat} {own : List (Nat × Nat)} (hok : okE s.ws (s.at i)) (hw : s.ws.length ≤ 16) (hj : own[j]? = some (i, g)) : ((lst 32 (mskP (s.at i))).map fun q => mk q ((rowsOf s own q).getD j Pt.zero)) = s.at i := by
  have e : (fun q => mk q ((rowsOf s own q).getD j Pt.zero)) = fun q => mk q (ptAt (s.at i) q) := by
    funext q
    rw [rows_at s hj]
  rw [e]
  exact parts_back hok.1 hw
/-- Where an entity stands. -/
structure At1 (c : CV) (s : SD) (i g n j m : Nat) (own : List (Nat × Nat)) (y : Nat × Nat) : Prop where
  seat : c.seat[i]? = some (n, j)
  tab : c.tab n = some own
  here : own[j]? = some (i, g)
  set : s.sets[n]? = some m
  msk : m = mskP (s.at i)
  last : own[own.length - 1]? = some y
  few : own.length ≤ 64
  ok : okE s.ws (s.at i)
theorem Sto.stands {ex : Option Nat} {B : Nat} {W : World} {sb : Nat} {c : CV} {s : SD} (h : Sto ex B W sb c s) {i g : Nat} (ha : al s i g) (he : ex ≠ some i) : ∃ n j m own y, At1 c s i g n j m own y := by
  obtain ⟨n, j, own, e1, e2, e3, e4⟩ := h.lk.here i g ha he
  have hj := (List.getElem?_eq_some_iff.1 e3).1
  obtain ⟨y, hy⟩ := at_lt own (own.length - 1) (by omega)
  exact ⟨n, j, _, own, y, e1, e2, e3, e4, rfl, hy, Nat.le_trans (h.lk.few e2) h.rol.small, h.lk.ok i g ha he⟩
end Go.Proofs.YtoafpfheopgdkaaGreatDoor.So
namespace Go.Proofs.YtoafpfheopgdkaaGreatDoor.So
open Go.RowKit Go.Shelf Go.Maps
open Go.Proofs.YtoafpfheopgdkaaGreatDoor.Co (I64 Pt Col CS I64_mid)
open Go.Proofs.YtoafpfheopgdkaaGreatDoor.At (St bAl cell_blk blk_seen blk_free lst lst_mem an wi wo add Atl Ints pow_le)
open Go.Proofs.YtoafpfheopgdkaaGreatDoor.Ro (RS Rol Ents entCells entCells_len)
open Go.Proofs.YtoafpfheopgdkaaGreatDoor.Rs (Prt Prts SD okL okW okC fitP mskP mskP_snoc PRow st_ro ro_st)
end Go.Proofs.YtoafpfheopgdkaaGreatDoor.So
namespace Go.Proofs.YtoafpfheopgdkaaGreatDoor
open Go.RowKit Go.Shelf
def eight : List Nat := [1, 2, 4, 6, 7, 9, 10, 17]
/-- Eight sentinels lie where the program's text lays them. -/
structure Env8 (w : World) (Ad : Nat → Addr) : Prop where
  cell : ∀ k, k ∈ eight → k ≤ 18 → w.cell? ⟨gv k, 0, none⟩ = some (.iface 262 (.pointer (some (Ad k))))
  sen : ∀ k, k ∈ eight → k ≤ 18 → SenK w (Ad k)
  inj : ∀ i j, i ∈ eight → j ∈ eight → Ad i = Ad j → i = j
theorem eight_le : ∀ k ∈ eight, 1 ≤ k ∧ k ≤ 18 := by decide
theorem Env8.later {w w' : World} {Ad : Nat → Addr} (h : Env8 w Ad) (hb : Below w.heap.size w w') : Env8 w' Ad :=
  ⟨fun k h1 h2 => (hb.cell (p := ⟨gv k, 0, none⟩) (World.block_lt_of_cell? w _ (h.cell k h1 h2))).trans (h.cell k h1 h2), fun k h1 h2 => (h.sen k h1 h2).below hb (h.sen k h1 h2).lt, h.inj⟩
theorem Env8.same {w : World} {Ad : Nat → Addr} (h : Env8 w Ad) {p k : Nat} (hp : p ∈ eight) (hk : k ∈ eight) : decide (Ad p = Ad k) = decide (p = k) := by
  by_cases e : p = k
  · subst e; simp
  · have : Ad p ≠ Ad k := fun h' => e (h.inj p k hp hk h')
    simp [e, this]
theorem Env.eight {w : World} {Ad : Nat → Addr} (h : Env w Ad) : Env8 w Ad :=
  ⟨fun k h1 h2 => h.cell k (eight_le k h1).1 h2, fun k h1 h2 => h.sen k (eight_le k h1).1 h2, fun i j h1 h2 => h.inj i j (eight_le i h1).1 (eight_le i h1).2 (eight_le j h2).1 (eight_le j h2).2⟩
end Go.Proofs.YtoafpfheopgdkaaGreatDoor
namespace Go.Proofs.YtoafpfheopgdkaaGreatDoor.So
open Go.RowKit Go.Shelf Go.Maps
open Go.Proofs.YtoafpfheopgdkaaGreatDoor.Co (I64 Pt Col CS I64_mid)
open Go.Proofs.YtoafpfheopgdkaaGreatDoor.At (St bAl cell_blk blk_seen blk_free lst lst_mem an wi wo add Atl Ints pow_le Err at_err err_leaf)
open Go.Proofs.YtoafpfheopgdkaaGreatDoor.Ro (RS Rol Ents entCells entCells_len)
open Go.Proofs.YtoafpfheopgdkaaGreatDoor.Rs (Prt Prts SD okL okW okC fitP mskP mskP_snoc PRow st_ro ro_st)
theorem Env8.three {w : World} {Ad : Nat → Addr} (h : Env8 w Ad) : Co.Env3 w Ad := by
  have R : ∀ k ∈ Co.three, k ∈ eight ∧ k ≤ 18 := by decide
  exact ⟨fun k hk => h.cell k (R k hk).1 (R k hk).2, fun k hk => h.sen k (R k hk).1 (R k hk).2, fun i hi j hj => h.inj i j (R i hi).1 (R j hj).1⟩
theorem Env8.four {w : World} {Ad : Nat → Addr} (h : Env8 w Ad) : Ro.Env4 w Ad := by
  have R : ∀ k ∈ Ro.four, k ∈ eight ∧ k ≤ 18 := by decide
  exact ⟨fun k hk => h.cell k (R k hk).1 (R k hk).2, fun k hk => h.sen k (R k hk).1 (R k hk).2, fun i hi j hj => h.inj i j (R i hi).1 (R j hj).1⟩
section
variable {w : World} {Ad : Nat → Addr}
theorem e1 (h : Env8 w Ad) : w.cell? ⟨1, 0, none⟩ = some (.iface 262 (.pointer (some (Ad 1)))) := h.cell 1 (by decide) (by decide)
theorem e2 (h : Env8 w Ad) : w.cell? ⟨0, 0, none⟩ = some (.iface 262 (.pointer (some (Ad 2)))) := h.cell 2 (by decide) (by decide)
theorem e7 (h : Env8 w Ad) : w.cell? ⟨3, 0, none⟩ = some (.iface 262 (.pointer (some (Ad 7)))) := h.cell 7 (by decide) (by decide)
theorem e9 (h : Env8 w Ad) : w.cell? ⟨2, 0, none⟩ = some (.iface 262 (.pointer (some (Ad 9)))) := h.cell 9 (by decide) (by decide)
theorem e17 (h : Env8 w Ad) : w.cell? ⟨5, 0, none⟩ = some (.iface 262 (.pointer (some (Ad 17)))) := h.cell 17 (by decide) (by decide)
end
/-- A sentinel as an error. -/
def sen (Ad : Nat → Addr) (k : Nat) : Value := .iface 262 (.pointer (some (Ad k)))
set_option maxHeartbeats 1600000 in
set_option maxRecDepth 100000 in
theorem find_nil (Ad : Nat → Addr) (W : World) (hE : Env8 W Ad) (i g : Int) :
    Calls Tryz.prog 55 #[.pointer none, .agg #[.int .i64 i, .int .i64 g]] W fun e W' => e = .returned (.tuple #[.pointer none, .int .i64 0, .iface 262 (.pointer (some (Ad 2)))]) ∧ Below W.heap.size W W' := by
  obtain ⟨w1, hw1⟩ : ∃ w1, w1 = W.alloc (.cells #[.int .i64 i, .int .i64 g] 58) := ⟨_, rfl⟩
  have b1 : Below W.heap.size W w1 := by rw [hw1]; exact bAl _ _
  have c2 := e2 (hE.later b1)
  have HW1 := hid hw1
  have B1 := hid b1
  clear hw1 b1 hE
  go_enter Tryz.func55, Tryz.ntmps55
  go_upto_region 1 with fail
  rw [← HW1.out]
  go_wp2_with fail
  go_quiet (fail)
  go_wp2_with fail
  refine bodyPost_ret (v := .tuple #[.pointer none, .int .i64 0, .iface 262 (.pointer (some (Ad 2)))]) (by simp [results, Tryz.results55, go_sem]) rfl ⟨rfl, B1.out.trans ((At.drewN_below w1 _).mono B1.out.size)⟩
set_option maxHeartbeats 1600000 in
set_option maxRecDepth 100000 in
theorem find_dead (Ad : Nat → Addr) {ex : Option Nat} {B : Nat} {W : World} {sb : Nat} {c : CV} {s : SD} (h : Sto ex B W sb c s) (hE : Env8 W Ad) (i g : Int) (hi : I64 i) (hg : I64 g) (ha : s.r.aliveB i g = false) :
    Calls Tryz.prog 55 #[.pointer (some ⟨sb, 0, none⟩), .agg #[.int .i64 i, .int .i64 g]] W fun e W' => e = .returned (.tuple #[.pointer none, .int .i64 0, .iface 262 (.pointer (some (Ad 17)))]) ∧ Below W.heap.size W W' := by
  obtain ⟨w1, hw1⟩ : ∃ w1, w1 = W.alloc (.cells #[.int .i64 i, .int .i64 g] 58) := ⟨_, rfl⟩
  have b1 : Below W.heap.size W w1 := by rw [hw1]; exact bAl _ _
  have r1 : w1.heap[W.heap.size]? = some (.cells #[.int .i64 i, .int .i64 g] 58 (0, 0)) := by rw [hw1]; exact heap_alloc_new W _
  have KK : Hid (∀ W', Below w1.heap.size w1 W' → W'.cell? ⟨sb, 3, none⟩ = some (.pointer (some ⟨c.rb, 0, none⟩)) ∧ W'.cell? ⟨W.heap.size, 0, none⟩ = some (.int .i64 i) ∧ W'.cell? ⟨W.heap.size, 1, none⟩ = some (.int .i64 g)) := fun W' hb =>
    ⟨((h.later b1).later hb).c3, cell_blk (blk_seen hb (Nat.le_refl _) r1) rfl, cell_blk (blk_seen hb (Nat.le_refl _) r1) rfl⟩
  have AL : Hid (∀ W', Below w1.heap.size w1 W' → Calls Tryz.prog 86 #[.pointer (some ⟨c.rb, 0, none⟩), .agg #[.int .i64 i, .int .i64 g]] W' fun e W2 => e = .returned (.bool false) ∧ Below w1.heap.size w1 W2) := fun W' hb =>
    (Ro.rol_alive ((h.later b1).later hb).rol i g hi hg).mono fun e W2 ⟨q1, q2⟩ => ⟨by rw [q1, ha], hb.trans (q2.mono hb.size)⟩
  have HE := hid (hE.later b1)
  have HW1 := hid hw1
  have B1 := hid b1
  clear hw1 b1 r1 hE h hi hg ha
  go_enter Tryz.func55, Tryz.ntmps55
  go_upto_region 1 with fail
  rw [← HW1.out]
  go_wp2_with fail
  go_region_held3 (fun W' => W'.cell? ⟨sb, 3, none⟩ = some (.pointer (some ⟨c.rb, 0, none⟩)) ∧ W'.cell? ⟨W.heap.size, 0, none⟩ = some (.int .i64 i) ∧ W'.cell? ⟨W.heap.size, 1, none⟩ = some (.int .i64 g)) (first | exact KK.out _ (Below.refl _ _).drew | exact KK.out _ (Below.refl _ _) | exact KK.out _ B2.out)
    ((go_at_call 86; refine (AL.out _ (by first | exact (Below.refl _ _).drew | exact Below.refl _ _)).mono ?_; rintro e w2 ⟨rfl, hb2⟩; have B2 := hid hb2; clear hb2))
  have c17 := e17 (HE.out.later B2.out)
  go_wp2_with fail
  go_quiet (fail)
  go_wp2_with fail
  refine bodyPost_ret (v := .tuple #[.pointer none, .int .i64 0, .iface 262 (.pointer (some (Ad 17)))]) (by simp [results, Tryz.results55, go_sem]) rfl ⟨rfl, ?_⟩
  exact B1.out.trans ((B2.out.trans ((At.drewN_below _ _).mono B2.out.size)).mono B1.out.size)
set_option maxHeartbeats 3200000 in
set_option maxRecDepth 100000 in
theorem find_some {ex : Option Nat} {B : Nat} {W : World} {sb : Nat} {c : CV} {s : SD} (h : Sto ex B W sb c s) {i g n j m : Nat} {own : List (Nat × Nat)} {y : Nat × Nat} (ha : al s i g) (A : At1 c s i g n j m own y) :
    Calls Tryz.prog 55 #[.pointer (some ⟨sb, 0, none⟩), .agg #[.int .i64 (i : Int), .int .i64 (g : Int)]] W fun e W' => e = .returned (.tuple #[.pointer (some ⟨(c.tv n).tb, 0, none⟩), .int .i64 (j : Int), .nilIface]) ∧ Below W.heap.size W W' := by
  obtain ⟨w1, hw1⟩ : ∃ w1, w1 = W.alloc (.cells #[.int .i64 (i : Int), .int .i64 (g : Int)] 58) := ⟨_, rfl⟩
  have b1 : Below W.heap.size W w1 := by rw [hw1]; exact bAl _ _
  have r1 : w1.heap[W.heap.size]? = some (.cells #[.int .i64 (i : Int), .int .i64 (g : Int)] 58 (0, 0)) := by rw [hw1]; exact heap_alloc_new W _
  have h1 := h.later b1
  have hi64 : s.r.gens.length ≤ 64 := h.rol.small
  have hii := al_lt ha
  have KK : Hid (∀ W', Below w1.heap.size w1 W' → W'.cell? ⟨sb, 3, none⟩ = some (.pointer (some ⟨c.rb, 0, none⟩)) ∧ W'.cell? ⟨W.heap.size, 0, none⟩ = some (.int .i64 (i : Int)) ∧ W'.cell? ⟨W.heap.size, 1, none⟩ = some (.int .i64 (g : Int))) := fun W' hb =>
    ⟨(h1.later hb).c3, cell_blk (blk_seen hb (Nat.le_refl _) r1) rfl, cell_blk (blk_seen hb (Nat.le_refl _) r1) rfl⟩
  have hgI : I64 (g : Int) := by
    have hg := (al_iff s i g).1 ha
    have ho := h.rol.old g (List.mem_of_getElem? hg.2)
    have := h.small
    exact I64_mid (by omega) (by omega)
  have AL : Hid (∀ W', Below w1.heap.size w1 W' → Calls Tryz.prog 86 #[.pointer (some ⟨c.rb, 0, none⟩), .agg #[.int .i64 (i : Int), .int .i64 (g : Int)]] W' fun e W2 => e = .returned (.bool true) ∧ Below w1.heap.size w1 W2) := fun W' hb =>
    (Ro.rol_alive (h1.later hb).rol (i : Int) (g : Int) (I64_mid (by omega) (by omega)) hgI).mono fun e W2 ⟨q1, q2⟩ => ⟨by rw [q1, show s.r.aliveB (i : Int) (g : Int) = true from ha], hb.trans (q2.mono hb.size)⟩
  have K5 : Hid (∀ W', Below w1.heap.size w1 W' → W'.cell? ⟨sb, 4, none⟩ = some (.slice (some ⟨c.sv, 0, none⟩) c.seat.length c.seat.length) ∧ W'.cell? ⟨W.heap.size, 0, none⟩ = some (.int .i64 (i : Int)) ∧ W'.cell? ⟨c.sv, i * 2, none⟩ = some (.int .i64 (n : Int)) ∧ W'.cell? ⟨c.sv, i * 2 + 1, none⟩ = some (.int .i64 (j : Int))) := fun W' hb =>
    ⟨(h1.later hb).c4, (KK.out W' hb).2.1, ((h1.later hb).seat_at A.seat).1, ((h1.later hb).seat_at A.seat).2⟩
  have hsi : (i : Int) < (c.seat.length : Int) := by have := h.lk.len; omega
  have hn5 : n ≤ 65536 := by
    have := (List.getElem?_eq_some_iff.1 A.set).1
    have := h.atl.ok.small
    simp at this
    omega
  have LE : So.lk (tabMap c.tab c.tv) (n : Int) = some (c.tv n).tb := by rw [lk_nat]; unfold tabMap; rw [A.tab]; rfl
  obtain ⟨x, hx⟩ : ∃ x, x = c.tv n := ⟨_, rfl⟩
  rw [← hx] at LE
  have K6 : Hid (∀ W', Below w1.heap.size w1 W' → W'.cell? ⟨sb, 2, none⟩ = some (.map (some c.tm)) ∧ (Instr.lookup 89 (.map (some c.tm)) (.int .i64 (n : Int)) false).run Tryz.prog W' = .ok (.pointer (some ⟨x.tb, 0, none⟩)) W') := fun W' hb => by
    refine ⟨(h1.later hb).c2, ?_⟩
    have := (h1.later hb).look (n : Int) (I64_mid (by omega) (by omega))
    rw [LE] at this
    exact this
  rw [← hx]
  have HW1 := hid hw1
  have B1 := hid b1
  clear hw1 b1 r1 h h1 ha A LE hx hgI
  go_enter Tryz.func55, Tryz.ntmps55
  go_upto_region 1 with fail
  rw [← HW1.out]
  go_wp2_with fail
  go_region_held3 (fun W' => W'.cell? ⟨sb, 3, none⟩ = some (.pointer (some ⟨c.rb, 0, none⟩)) ∧ W'.cell? ⟨W.heap.size, 0, none⟩ = some (.int .i64 (i : Int)) ∧ W'.cell? ⟨W.heap.size, 1, none⟩ = some (.int .i64 (g : Int))) (first | exact KK.out _ (Below.refl _ _).drew | exact KK.out _ (Below.refl _ _) | exact KK.out _ B2.out)
    ((go_at_call 86; refine (AL.out _ (by first | exact (Below.refl _ _).drew | exact Below.refl _ _)).mono ?_; rintro e w2 ⟨rfl, hb2⟩; have B2 := hid hb2; clear hb2))
  go_wp2_with fail
  go_region_held3 (fun W' => W'.cell? ⟨sb, 4, none⟩ = some (.slice (some ⟨c.sv, 0, none⟩) c.seat.length c.seat.length) ∧ W'.cell? ⟨W.heap.size, 0, none⟩ = some (.int .i64 (i : Int)) ∧ W'.cell? ⟨c.sv, i * 2, none⟩ = some (.int .i64 (n : Int)) ∧ W'.cell? ⟨c.sv, i * 2 + 1, none⟩ = some (.int .i64 (j : Int)))
    (first | exact K5.out _ B2.out | exact K5.out _ B2.out.drew | exact K5.out _ (B2.out.drew.alloc (by have := B2.out.size; simp; omega) _) | exact K5.out _ ((B2.out.drew.alloc (by have := B2.out.size; simp; omega) _).setCell (by have := B2.out.size; simp; omega) _) | exact K5.out _ (((B2.out.drew.alloc (by have := B2.out.size; simp; omega) _).setCell (by have := B2.out.size; simp; omega) _).setCell (by have := B2.out.size; simp; omega) _)) (fail)
  obtain ⟨w3, hw3⟩ : ∃ w3, w3 = (w2.alloc (.cells #[.int .i64 (n : Int), .int .i64 (j : Int)] 168)).drew := ⟨_, rfl⟩
  have b3 : Below w1.heap.size w1 w3 := by rw [hw3]; exact (B2.out.alloc B2.out.size _).drew
  have r3 : w3.heap[w2.heap.size]? = some (.cells #[.int .i64 (n : Int), .int .i64 (j : Int)] 168 (0, 0)) := by rw [hw3]; exact heap_alloc_new w2 _
  rw [← hw3]
  have B3 := hid b3
  have R3 := hid r3
  have K7 : Hid (∀ W', Below w3.heap.size w3 W' → W'.cell? ⟨sb, 2, none⟩ = some (.map (some c.tm)) ∧ W'.cell? ⟨w2.heap.size, 0, none⟩ = some (.int .i64 (n : Int)) ∧ W'.cell? ⟨w2.heap.size, 1, none⟩ = some (.int .i64 (j : Int)) ∧ (Instr.lookup 89 (.map (some c.tm)) (.int .i64 (n : Int)) false).run Tryz.prog W' = .ok (.pointer (some ⟨x.tb, 0, none⟩)) W') := fun W' hb => by
    have q := K6.out W' (B3.out.trans (hb.mono B3.out.size))
    exact ⟨q.1, cell_blk (blk_seen hb (Nat.le_refl _) R3.out) rfl, cell_blk (blk_seen hb (Nat.le_refl _) R3.out) rfl, q.2⟩
  clear hw3 b3 r3 K5 KK AL
  go_wp2_with fail
  go_region_held3 (fun W' => W'.cell? ⟨sb, 2, none⟩ = some (.map (some c.tm)) ∧ W'.cell? ⟨w2.heap.size, 0, none⟩ = some (.int .i64 (n : Int)) ∧ W'.cell? ⟨w2.heap.size, 1, none⟩ = some (.int .i64 (j : Int)) ∧ (Instr.lookup 89 (.map (some c.tm)) (.int .i64 (n : Int)) false).run Tryz.prog W' = .ok (.pointer (some ⟨x.tb, 0, none⟩)) W') (first | exact K7.out _ (Below.refl _ _).drew | exact K7.out _ (Below.refl _ _)) (fail)
  go_wp2_with fail
  refine bodyPost_ret (v := .tuple #[.pointer (some ⟨x.tb, 0, none⟩), .int .i64 (j : Int), .nilIface]) (by simp [results, Tryz.results55, go_sem]) rfl ⟨rfl, ?_⟩
  exact (B1.out.trans (B3.out.mono B1.out.size)).drew
end Go.Proofs.YtoafpfheopgdkaaGreatDoor.So
namespace Go.Proofs.YtoafpfheopgdkaaGreatDoor.So
open Go.RowKit Go.Shelf Go.Maps
open Go.Proofs.YtoafpfheopgdkaaGreatDoor.Co (I64 Pt Col CS I64_mid Nums nzB any_next any_hit fit_any nums_behind)
open Go.Proofs.YtoafpfheopgdkaaGreatDoor.At (St bAl cell_blk blk_seen blk_free Ints Err at_err err_leaf)
open Go.Proofs.YtoafpfheopgdkaaGreatDoor.Rs (Prt SD okW fitP)
set_option maxHeartbeats 400000 in
theorem nz_any (x : Int) (W : World) : Calls Tryz.prog 103 #[.int .i64 x] W fun e W' => e = .returned (.bool (!(x == 0))) ∧ W' = W := by
  go_enter Tryz.func103, Tryz.ntmps103
  go_wp2
  go_ret
  exact ⟨rfl, rfl⟩
set_option maxHeartbeats 800000 in
set_option maxRecDepth 100000 in
theorem index_any (W : World) (b o c : Nat) (xs : List Int) (hn : xs.length ≤ 4) (hm : Nums W b o xs) :
    Calls Tryz.prog 120 #[.slice (some ⟨b, o, none⟩) xs.length c, .func (.func 103) #[] #[]] W fun e W' => ∃ r : Int, e = .returned (.int .i64 r) ∧ decide (0 ≤ r) = xs.any nzB ∧ W' = W := by
  have HM := hid hm
  clear hm
  have NZ := hid nz_any
  have hni : (xs.length : Int) ≤ 4 := by omega
  go_enter Tryz.func120, Tryz.ntmps120
  go_wp2_with fail
  go_loop [5, 8] (fun _ i => ∃ k : Nat, k ≤ xs.length ∧ i = .int .i64 (k : Int) ∧ Hid ((xs.take k).any nzB = false)) (fun _ i => xs.length - (intOf i).toNat)
  case atStart => exact ⟨0, Nat.zero_le _, rfl, rfl⟩
  case round =>
    obtain ⟨k, hk, rfl, HA⟩ := hrel
    by_cases hlt : k < xs.length
    · have hki : (k : Int) < (xs.length : Int) := by omega
      obtain ⟨x, hx⟩ := at_lt xs k hlt
      have c0 := HM.out k x hx
      have AN := hid (any_next hx)
      have AH := hid (any_hit hx)
      clear hx
      by_cases h0 : x = 0
      · have e0 : (x == 0) = true := by simp [h0]
        have E : Hid ((xs.take (k + 1)).any nzB = false) := by show _ = _; rw [AN.out, HA.out]; simp [nzB, e0]
        clear h0 AH
        go_wp2_with fail
        refine (NZ.out _ _).mono ?_
        rintro e w1 ⟨rfl, rfl⟩
        go_wp2_with fail
        go_round
        case rel => exact ⟨k + 1, by omega, by go_num, E.out⟩
        case measure => simp [intOf]; omega
      · have e0 : (x == 0) = false := by simp [h0]
        have E : Hid (xs.any nzB = true) := AH.out (by simp [nzB, e0])
        clear h0 AH
        go_wp2_with fail
        refine (NZ.out _ _).mono ?_
        rintro e w1 ⟨rfl, rfl⟩
        go_wp2_with fail
        go_ret
        exact ⟨_, rfl, by rw [E.out]; simp, rfl⟩
    · have hki : ¬ ((k : Int) < (xs.length : Int)) := by omega
      have E : Hid (xs.any nzB = false) := by
        have := HA.out
        rw [List.take_of_length_le (by omega)] at this
        exact this
      go_wp2_with fail
      go_ret
      exact ⟨_, rfl, by rw [E.out]; simp, rfl⟩
set_option maxHeartbeats 800000 in
theorem contains_any (W : World) (b o c : Nat) (xs : List Int) (hn : xs.length ≤ 4) (hm : Nums W b o xs) :
    Calls Tryz.prog 101 #[.slice (some ⟨b, o, none⟩) xs.length c, .func (.func 103) #[] #[]] W fun e W' => e = .returned (.bool (xs.any nzB)) ∧ W' = W := by
  have IX := hid (index_any W b o c xs hn hm)
  clear hm
  go_enter Tryz.func101, Tryz.ntmps101
  go_wp2_with fail
  refine IX.out.mono ?_
  rintro e w1 ⟨r, rfl, hr, rfl⟩
  have HR := hid hr
  clear hr IX
  go_wp2_with fail
  go_ret
  exact ⟨by rw [← HR.out]; rfl, rfl⟩
theorem fit_bool {ws : List Nat} {p : Prt} {c w : Nat} (hc : p.c = (c : Int)) (hw : ws[c]? = some w) : fitP ws p = (pt p).fitB w := by rw [Rs.fit_in hc hw]; rfl
set_option maxHeartbeats 1600000 in
set_option maxRecDepth 100000 in
theorem check_out (Ad : Nat → Addr) {ex : Option Nat} {B : Nat} {W : World} {sb : Nat} {c : CV} {s : SD} (h : Sto ex B W sb c s) (hE : Env8 W Ad) (p : Prt) (hc : p.c < 0 ∨ (s.ws.length : Int) ≤ p.c) :
    Calls Tryz.prog 67 #[.pointer (some ⟨sb, 0, none⟩), .agg #[.int .i64 p.c, .int .i64 p.v0, .int .i64 p.v1, .int .i64 p.v2, .int .i64 p.v3, .int .i64 p.t]] W fun e W' => ∃ t q, e = .returned (.iface t q) ∧ Err Ad W' (.iface t q) 1 1 ∧ Below W.heap.size W W' := by
  obtain ⟨W1, hW1⟩ : ∃ W1, W1 = W.alloc (.cells p.arr 71) := ⟨_, rfl⟩
  have BA : Hid (Below W.heap.size W W1) := by rw [hW1]; exact bAl _ _
  have x1 := e1 (hE.later BA.out)
  have q0 := (h.later BA.out).c0
  obtain ⟨wa, wc, hwv⟩ := h.wd.slice
  rw [hwv] at q0
  have hh : W1.heap[W.heap.size]? = some (.cells p.arr 71 (0, 0)) := by rw [hW1]; exact heap_alloc_new W (.cells p.arr 71)
  have d0 : W1.cell? ⟨W.heap.size, 0, none⟩ = some (.int .i64 p.c) := cell_blk hh rfl
  have AC := hid (fun s m => at_err Ad s _ 1 0 (W1.drewN m) (err_leaf Ad _ 1 (by decide)))
  have HW1 := hid hW1
  have hsl : (s.ws.length : Int) ≤ 16 := by have := h.okw.1; omega
  unfold Prt.arr at HW1
  clear hE h hW1 hwv hh
  by_cases h0 : p.c < 0
  · have g0 : decide (p.c < 0) = true := by simpa using h0
    clear hc
    go_enter Tryz.func67, Tryz.ntmps67
    go_wp2_with fail
    rw [← HW1.out]
    go_quiet (fail)
    go_wp2_with fail
    refine (AC.out _ _).mono ?_
    rintro e w2 ⟨t, q, rfl, hv, hb⟩
    have HV := hid hv
    have HB := hid (BA.out.trans ((At.drewN_below W1 nq).trans (hb.mono (At.drewN_below W1 nq).size) |>.mono BA.out.size))
    clear hv hb AC
    go_wp2_with fail
    go_ret
    exact ⟨t, q, rfl, HV.out, HB.out⟩
  · have h1 : (s.ws.length : Int) ≤ p.c := by omega
    have g0 : decide (p.c < 0) = false := by simpa using h0
    have g1 : decide ((s.ws.length : Int) ≤ p.c) = true := by simpa using h1
    clear hc
    go_enter Tryz.func67, Tryz.ntmps67
    go_wp2_with fail
    rw [← HW1.out]
    go_quiet (fail)
    go_wp2_with fail
    refine (AC.out _ _).mono ?_
    rintro e w2 ⟨t, q, rfl, hv, hb⟩
    have HV := hid hv
    have HB := hid (BA.out.trans ((At.drewN_below W1 nq).trans (hb.mono (At.drewN_below W1 nq).size) |>.mono BA.out.size))
    clear hv hb AC
    go_wp2_with fail
    go_ret
    exact ⟨t, q, rfl, HV.out, HB.out⟩
end Go.Proofs.YtoafpfheopgdkaaGreatDoor.So
namespace Go.Proofs.YtoafpfheopgdkaaGreatDoor.So
open Go.RowKit Go.Shelf Go.Maps
open Go.Proofs.YtoafpfheopgdkaaGreatDoor.Co (I64 Pt Col CS I64_mid Nums nzB any_next any_hit fit_any nums_behind)
open Go.Proofs.YtoafpfheopgdkaaGreatDoor.At (St bAl cell_blk blk_seen blk_free Ints Err at_err err_leaf)
open Go.Proofs.YtoafpfheopgdkaaGreatDoor.Rs (Prt SD okW fitP)
set_option maxHeartbeats 1600000 in
set_option maxRecDepth 100000 in
theorem check_in (Ad : Nat → Addr) {ex : Option Nat} {B : Nat} {W : World} {sb : Nat} {c : CV} {s : SD} (h : Sto ex B W sb c s) (hE : Env8 W Ad) (p : Prt) {cc : Nat} (hc : p.c = (cc : Int)) (hcl : cc < s.ws.length) :
    Calls Tryz.prog 67 #[.pointer (some ⟨sb, 0, none⟩), .agg #[.int .i64 p.c, .int .i64 p.v0, .int .i64 p.v1, .int .i64 p.v2, .int .i64 p.v3, .int .i64 p.t]] W fun e W' => ∃ v, e = .returned v ∧ (if fitP s.ws p then v = .nilIface else ∃ t q, v = .iface t q ∧ Err Ad W' (.iface t q) 1 1) ∧ Below W.heap.size W W' := by
  obtain ⟨w, hw⟩ := at_lt s.ws cc hcl
  have hw14 := h.okw.2 w (List.mem_of_getElem? hw)
  rw [fit_bool hc hw]
  obtain ⟨W1, hW1⟩ : ∃ W1, W1 = W.alloc (.cells p.arr 71) := ⟨_, rfl⟩
  have BA : Hid (Below W.heap.size W W1) := by rw [hW1]; exact bAl _ _
  have x1 := e1 (hE.later BA.out)
  have q0 := (h.later BA.out).c0
  have hwd := (h.later BA.out).wd
  obtain ⟨wa, wc, hwv⟩ := hwd.slice
  rw [hwv] at q0 hwd
  obtain ⟨wg, rfl, -, -⟩ := hwd.some (by omega)
  have q1 := hwd.cell hw
  have hh : W1.heap[W.heap.size]? = some (.cells ((pt p).arr p.c) 71 (0, 0)) := by rw [hW1]; exact heap_alloc_new W (.cells p.arr 71)
  have d0 : W1.cell? ⟨W.heap.size, 0, none⟩ = some (.int .i64 (cc : Int)) := by rw [← hc]; exact cell_blk hh rfl
  have AC := hid (fun s m => at_err Ad s _ 1 0 (W1.drewN m) (err_leaf Ad _ 1 (by decide)))
  have HW1 := hid hW1
  have hsl : (s.ws.length : Int) ≤ 16 := by have := h.okw.1; omega
  have g0 : decide ((cc : Int) < 0) = false := by simp
  have g1 : decide ((s.ws.length : Int) ≤ (cc : Int)) = false := by simp; omega
  have hci : (cc : Int) < (s.ws.length : Int) := by omega
  have hci0 : ¬ ((s.ws.length : Int) ≤ (cc : Int)) := by omega
  unfold Prt.arr at HW1
  have hfx : (pt p).fitB 4 = true := Co.fit4 _
  have hn := nums_behind hh w
  obtain ⟨so, sl, hso⟩ : ∃ so sl : Nat, (w = 4 ∧ so = 1 ∧ sl = 0) ∨ (w < 4 ∧ so = 1 + w ∧ sl = 4 - w) := by
    by_cases h4 : w = 4
    · exact ⟨1, 0, .inl ⟨h4, rfl, rfl⟩⟩
    · exact ⟨1 + w, 4 - w, .inr ⟨by omega, rfl, rfl⟩⟩
  have CO : Hid (∀ W', Below W1.heap.size W1 W' → Calls Tryz.prog 101 #[.slice (some ⟨W.heap.size, so, none⟩) sl sl, .func (.func 103) #[] #[]] W' fun e W'' => e = .returned (.bool (!(pt p).fitB w)) ∧ W'' = W') := fun W' hb => by
    rcases hso with ⟨rfl, rfl, rfl⟩ | ⟨h4, rfl, rfl⟩
    · rw [hfx]
      exact contains_any W' W.heap.size 1 0 [] (by simp) (by intro j x hx; simp at hx)
    · have := contains_any W' W.heap.size (1 + w) (4 - w) ((pt p).cs.drop w) (by simp [Pt.cs]) (by
        intro j x hx
        exact At.seen hb (Nat.le_refl _) (hn j x hx))
      rw [fit_any, show ((pt p).cs.drop w).length = 4 - w by simp [Pt.cs]] at this
      exact this
  obtain ⟨fb, hfb⟩ : ∃ fb, fb = (pt p).fitB w := ⟨_, rfl⟩
  rw [← hfb] at CO ⊢
  rw [hc] at HW1 ⊢
  have KK : Hid (∀ m, (W1.drewN m).cell? ⟨sb, 0, none⟩ = some (.slice (some ⟨wg, 0, none⟩) s.ws.length wc) ∧ (W1.drewN m).cell? ⟨wg, cc, none⟩ = some (.int .i64 (w : Int)) ∧ (W1.drewN m).cell? ⟨W.heap.size, 0, none⟩ = some (.int .i64 (cc : Int)) ∧ (W1.drewN m).cell? ⟨1, 0, none⟩ = some (.iface 262 (.pointer (some (Ad 1))))) := fun m =>
    have b := At.drewN_below W1 m
    ⟨At.seen b (Nat.le_refl _) q0, At.seen b (Nat.le_refl _) q1, At.seen b (Nat.le_refl _) d0, At.seen b (Nat.le_refl _) x1⟩
  have hw4 : (w : Int) ≤ 4 := by omega
  clear h hE hW1 hh hw hwv hwd hc hfx hn hfb
  go_enter Tryz.func67, Tryz.ntmps67
  go_wp2_with fail
  rw [← HW1.out]
  go_quiet (fail)
  obtain ⟨W2, hW2⟩ : ∃ W2, W2 = W1.drewN nq := ⟨_, rfl⟩
  have b2 : Below W1.heap.size W1 W2 := by rw [hW2]; exact At.drewN_below _ _
  obtain ⟨k0, k1, k2, k3⟩ := KK.out nq
  rw [← hW2] at k0 k1 k2 k3
  have CO2 : Hid (∀ m, Calls Tryz.prog 101 #[.slice (some ⟨W.heap.size, so, none⟩) sl sl, .func (.func 103) #[] #[]] (W2.drewN m) fun e W'' => e = .returned (.bool (!fb)) ∧ W'' = W2.drewN m) := fun m => CO.out _ (b2.trans ((At.drewN_below W2 m).mono b2.size))
  have AC2 : Hid (∀ str m, Calls Tryz.prog 33 #[.string str, .iface 262 (.pointer (some (Ad 1)))] (W2.drewN m) fun e w' => ∃ t q, e = .returned (.iface t q) ∧ Err Ad w' (.iface t q) 1 1 ∧ Below W.heap.size W w') := fun str m =>
    (at_err Ad str _ 1 0 (W2.drewN m) (err_leaf Ad _ 1 (by decide))).mono fun e w' ⟨t, q, q1, q2, q3⟩ => by
      have b3 : Below W.heap.size W (W2.drewN m) := BA.out.trans ((b2.trans ((At.drewN_below W2 m).mono b2.size)).mono BA.out.size)
      exact ⟨t, q, q1, q2, b3.trans (q3.mono b3.size)⟩
  have B3 : Hid (∀ m, Below W.heap.size W (W2.drewN m)) := fun m => BA.out.trans ((b2.trans ((At.drewN_below W2 m).mono b2.size)).mono BA.out.size)
  have K3 : Hid (∀ m, (W2.drewN m).cell? ⟨1, 0, none⟩ = some (.iface 262 (.pointer (some (Ad 1))))) := fun m => At.seen (At.drewN_below W2 m) (Nat.le_refl _) k3
  rw [← hW2]
  clear hW2 b2 KK CO AC q0 q1 d0 x1 BA
  rcases hso with ⟨rfl, rfl, rfl⟩ | ⟨h4, rfl, rfl⟩
  · go_wp2_with fail
    go_quiet ((go_at_call 101; exact Calls.quiet_of_same (CO2.out _)))
    have k4 := K3.out nq
    cases fb
    · go_wp2_with fail
      refine (AC2.out _ _).mono ?_
      rintro e w2 ⟨t, q, rfl, hv, hb⟩
      have HV := hid hv
      have HB := hid hb
      clear hv hb
      go_wp2_with fail
      go_ret
      exact ⟨_, rfl, ⟨t, q, rfl, HV.out⟩, HB.out⟩
    · go_wp2_with fail
      go_ret
      exact ⟨_, rfl, rfl, B3.out _⟩
  · have hn4 : ¬ (4 = w) := by omega
    have hz4 : ¬ (w = 4) := by omega
    go_wp2_with fail
    go_quiet ((go_at_call 101; exact Calls.quiet_of_same (CO2.out _)))
    have k4 := K3.out nq
    cases fb
    · go_wp2_with fail
      refine (AC2.out _ _).mono ?_
      rintro e w2 ⟨t, q, rfl, hv, hb⟩
      have HV := hid hv
      have HB := hid hb
      clear hv hb
      go_wp2_with fail
      go_ret
      exact ⟨_, rfl, ⟨t, q, rfl, HV.out⟩, HB.out⟩
    · go_wp2_with fail
      go_ret
      exact ⟨_, rfl, rfl, B3.out _⟩
end Go.Proofs.YtoafpfheopgdkaaGreatDoor.So
namespace Go.Proofs.YtoafpfheopgdkaaGreatDoor
open Go.RowKit Go.Shelf Go.Extern.Stop Go.Stop Go.Extern
/-- A Several of sentinels inside Blames. -/
structure Sev (Ad : Nat → Addr) (n₀ : Nat) (W : World) (d b : Nat) (vs : List (Value × (List ByteArray × Nat))) : Prop where
  lay : ∃ g c, b < n₀ ∧ g < n₀ ∧ W.cell? ⟨b, 0, none⟩ = some (.slice (some ⟨g, 0, none⟩) vs.length c) ∧ ∀ (j : Nat) x, vs[j]? = some x → W.cell? ⟨g, j, none⟩ = some x.1
  two : 2 ≤ vs.length
  few : vs.length ≤ 1000
  each : ∀ x ∈ vs, Chn Ad n₀ W d x.1 x.2
/-- What All answers: nothing, one sentinel inside Blames, a Several of such. -/
def Top (Ad : Nat → Addr) (n₀ : Nat) (W : World) (d : Nat) (v : Value) (ls : List (List ByteArray × Nat)) : Prop :=
  (v = .nilIface ∧ ls = []) ∨ (∃ p, ls = [p] ∧ Chn Ad n₀ W d v p) ∨ ∃ b vs, v = .iface 170 (.pointer (some ⟨b, 0, none⟩)) ∧ ls = vs.map Prod.snd ∧ Sev Ad n₀ W d b vs
section
variable {Ad : Nat → Addr} {n₀ : Nat} {W : World} {d : Nat}
theorem Top.empty : Top Ad n₀ W d .nilIface [] := .inl ⟨rfl, rfl⟩
theorem Top.one (v : Value) (p : List ByteArray × Nat) (h : Chn Ad n₀ W d v p) : Top Ad n₀ W d v [p] := .inr (.inl ⟨p, rfl, h⟩)
theorem Top.many (b : Nat) (vs : List (Value × (List ByteArray × Nat))) (h : Sev Ad n₀ W d b vs) : Top Ad n₀ W d (.iface 170 (.pointer (some ⟨b, 0, none⟩))) (vs.map Prod.snd) := .inr (.inr ⟨b, vs, rfl, rfl, h⟩)
/-- By what it is. -/
theorem Top.ways {motive : ∀ (v : Value) (ls : List (List ByteArray × Nat)), Top Ad n₀ W d v ls → Prop} (empty : motive .nilIface [] Top.empty) (one : ∀ v p (h : Chn Ad n₀ W d v p), motive v [p] (Top.one v p h))
    (many : ∀ b vs (h : Sev Ad n₀ W d b vs), motive (.iface 170 (.pointer (some ⟨b, 0, none⟩))) (vs.map Prod.snd) (Top.many b vs h)) {v : Value} {ls : List (List ByteArray × Nat)} (h : Top Ad n₀ W d v ls) : motive v ls h := by
  rcases h with ⟨rfl, rfl⟩ | ⟨p, rfl, h⟩ | ⟨b, vs, rfl, rfl, h⟩
  · exact empty
  · exact one v p h
  · exact many b vs h
end
theorem Chn.one {Ad : Nat → Addr} {n₀ d : Nat} {W : World} {v : Value} {p : List ByteArray × Nat} (h : Chn Ad n₀ W d v p) : v.oneCell' = true := by
  obtain ⟨t, q, rfl, _⟩ := h.1.shape
  rfl
theorem Sev.move {Ad : Nat → Addr} {n₀ n₁ d b : Nat} {W W' : World} {vs : List (Value × (List ByteArray × Nat))} (h : Sev Ad n₀ W d b vs) (hb : Below n₀ W W') (hn : n₀ ≤ n₁) : Sev Ad n₁ W' d b vs := by
  obtain ⟨⟨g, c, h1, h2, h3, h4⟩, h5, h6, h7⟩ := h
  exact ⟨⟨g, c, by omega, by omega, (hb.cell (p := ⟨b, 0, none⟩) h1).trans h3, fun j x hx => (hb.cell (p := ⟨g, j, none⟩) h2).trans (h4 j x hx)⟩, h5, h6, fun x hx => (h7 x hx).move hb hn⟩
theorem Top.move {Ad : Nat → Addr} {n₀ n₁ d : Nat} {W W' : World} {v : Value} {ls : List (List ByteArray × Nat)} (h : Top Ad n₀ W d v ls) (hb : Below n₀ W W') (hn : n₀ ≤ n₁) : Top Ad n₁ W' d v ls := by
  cases h using Top.ways with
  | empty => exact .empty
  | one v p h => exact .one v p (h.move hb hn)
  | many b vs h => exact .many b vs (h.move hb hn)
theorem Top.later {Ad : Nat → Addr} {d : Nat} {W W' : World} {v : Value} {ls : List (List ByteArray × Nat)} (h : Top Ad W.heap.size W d v ls) (hb : Below W.heap.size W W') : Top Ad W'.heap.size W' d v ls := h.move hb hb.size
theorem Top.tr {Ad : Nat → Addr} {n₀ d : Nat} {W : World} {v : Value} {ls : List (List ByteArray × Nat)} (h : Top Ad n₀ W d v ls) : Tr Ad n₀ W d v ls := by
  cases h using Top.ways with
  | empty => exact .empty d
  | one v p h => exact h.tr
  | many b vs h =>
    obtain ⟨⟨g, c, h1, h2, h3, h4⟩, h5, h6, h7⟩ := h
    have := Tr.many (Ad := Ad) (n₀ := n₀) (W := W) d b g c (vs.map fun x => (x.1, [x.2])) h1 h2 (by simp; omega) (by simpa using h6) (by simpa using h3)
      (fun j x hx => by
        simp only [List.getElem?_map, Option.map_eq_some_iff] at hx
        obtain ⟨y, hy, rfl⟩ := hx
        exact h4 j y hy)
      (fun x hx => by
        obtain ⟨y, hy, rfl⟩ := List.mem_map.1 hx
        exact (h7 y hy).one)
      (fun x hx => by
        obtain ⟨y, hy, rfl⟩ := List.mem_map.1 hx
        exact (h7 y hy).tr)
    have e : ((vs.map fun x => (x.1, [x.2])).map Prod.snd).flatten = vs.map Prod.snd := by
      clear this h3 h4 h5 h6 h7
      induction vs with
      | nil => rfl
      | cons x t ih => simpa using ih
    rw [e] at this
    exact this
set_option maxHeartbeats 2000000 in
set_option maxRecDepth 100000 in
theorem eis_many (Ad : Nat → Addr) (k d b : Nat) (w : World) (vs : List (Value × (List ByteArray × Nat))) (hE : Env w Ad) (hS : Sev Ad w.heap.size w d b vs) (hk : 1 ≤ k ∧ k ≤ 18) :
    Calls Tryz.prog 143 #[.iface 170 (.pointer (some ⟨b, 0, none⟩)), .iface 262 (.pointer (some (Ad k))), .bool true] w fun e w' => e = .returned (.bool (vs.any fun x => decide (x.2.2 = k))) ∧ Below w.heap.size w w' := by
  obtain ⟨⟨g, c, h1, h2, h3, h4⟩, h5, h6, h7⟩ := hS
  have hty := run_eql_iface_types (P := Tryz.prog) 170 262 (.pointer (some ⟨b, 0, none⟩)) (.pointer (some (Ad k))) Tryz.underlying46 (by decide) w
  have nW := km_noIsS
  have uW := km_noUnwrapS
  have vW := km_hasUnwrapsS
  have mU := km_methodS
  have U := hid (unwraps_any b g c (vs.map Prod.fst) w (by simpa using h6) (by simpa using h3) (fun j u hu => by
    simp only [List.getElem?_map, Option.map_eq_some_iff] at hu
    obtain ⟨x, hx, rfl⟩ := hu
    exact h4 j x hx) (fun u hu => by
    obtain ⟨x, hx, rfl⟩ := List.mem_map.1 hu
    exact (h7 x hx).one))
  rw [List.length_map] at U
  have H7 := hid h7
  have HE := hid hE
  have HKK := hid hk
  have hni : (vs.length : Int) ≤ 1000 := by omega
  clear h3 h4 h7 hE h1 h2 hk
  go_enter Tryz.func143, Tryz.ntmps143
  go_wp2_with fail
  refine wp_loop_rounds 1 ?_
  rw [rounds_succ]
  go_wp2_with fail
  refine U.out.mono ?_
  rintro e w1 ⟨ga, gc, rfl, ho, hbl⟩
  have O1 := hid ho
  have B1 := hid hbl
  have E1 := hid (HE.out.later hbl)
  clear ho hbl U
  go_wp2_with fail
  go_loop [12, 45] (fun _ i => ∃ j : Nat, j ≤ vs.length ∧ i = .int .i64 j ∧ (vs.take j).any (fun x => decide (x.2.2 = k)) = false) (fun _ i => vs.length - (intOf i).toNat)
  case atStart => exact ⟨0, Nat.zero_le _, rfl, rfl⟩
  case round =>
    obtain ⟨j, hj, rfl, hn⟩ := hrel
    have HN := hid hn
    clear hn
    by_cases hlt : j < vs.length
    · obtain ⟨x, hx⟩ := at_lt vs j hlt
      obtain ⟨h, rfl, hh⟩ := own_some O1.out (by omega)
      have c1 : w1.cell? ⟨h, j, none⟩ = some x.1 := by rw [O1.out.cellAt j (by omega)]; simp [hx]
      have HT := hid (take_next hx)
      have hm := List.mem_of_getElem? hx
      have hch := (H7.out x hm).move B1.out (Nat.le_refl _)
      have C := hid (eis_chain Ad w.heap.size k w1 x.2.1 x.1 x.2.2 E1.out hch.1 ⟨hch.2.1, hch.2.2.1⟩ HKK.out)
      have HM := hid hm
      clear hx hm hch
      by_cases hq : x.2.2 = k
      · have HR : Hid (vs.any (fun x => decide (x.2.2 = k)) = true) := List.any_eq_true.2 ⟨x, HM.out, by simpa using hq⟩
        rw [decide_eq_true hq] at C
        clear hq
        go_wp2_with fail
        refine C.out.mono ?_
        rintro e w' ⟨rfl, rfl⟩
        go_wp2_with fail
        go_ret
        exact ⟨by rw [HR.out]; rfl, B1.out⟩
      · have HR : Hid ((vs.take (j + 1)).any (fun x => decide (x.2.2 = k)) = false) := by
          show _ = _
          rw [HT.out, List.any_append, HN.out]; simp [hq]
        rw [decide_eq_false hq] at C
        clear hq
        go_wp2_with fail
        refine C.out.mono ?_
        rintro e w' ⟨rfl, rfl⟩
        go_wp2_with fail
        go_round
        case rel => exact ⟨j + 1, by omega, by go_num, HR.out⟩
        case measure => simp [intOf]; omega
    · have HR : Hid (vs.any (fun x => decide (x.2.2 = k)) = false) := by
        show _ = _
        rw [← HN.out, List.take_of_length_le (by omega)]
      go_wp2_with fail
      go_ret
      exact ⟨by rw [HR.out]; rfl, B1.out⟩
/-- errors.Is, of what All answers. -/
theorem is_top (Ad : Nat → Addr) (k d : Nat) (v : Value) (ls : List (List ByteArray × Nat)) (w : World) (hE : Env w Ad) (hT : Top Ad w.heap.size w d v ls) (hv : v ≠ .nilIface) (hk : 1 ≤ k ∧ k ≤ 18) :
    Calls Tryz.prog 127 #[v, .iface 262 (.pointer (some (Ad k)))] w fun e w' => e = .returned (.bool (ls.any fun x => decide (x.2 = k))) ∧ Below w.heap.size w w' := by
  cases hT using Top.ways with
  | empty => exact absurd rfl hv
  | one v p h =>
    obtain ⟨t, q, rfl, _⟩ := h.1.shape
    refine is_by Ad k t q _ w ((eis_chain Ad w.heap.size k w p.1 _ p.2 hE h.1 ⟨h.2.1, h.2.2.1⟩ hk).mono ?_)
    rintro e w' ⟨rfl, rfl⟩
    exact ⟨by simp, Below.refl _ _⟩
  | many b vs h =>
    refine is_by Ad k _ _ _ w ((eis_many Ad k d b w vs hE h hk).mono ?_)
    rintro e w' ⟨rfl, hb⟩
    exact ⟨by rw [List.any_map]; rfl, hb⟩
end Go.Proofs.YtoafpfheopgdkaaGreatDoor
namespace Go.Proofs.YtoafpfheopgdkaaGreatDoor
open Go.RowKit Go.Shelf
/-- At, of what All answers: the error somewhere. -/
theorem at_top (Ad : Nat → Addr) (s : ByteArray) (d : Nat) (v : Value) (ls : List (List ByteArray × Nat)) (w : World) (h : Top Ad w.heap.size w d v ls) :
    Calls Tryz.prog 33 #[.string s, v] w fun e w' => ∃ v', e = .returned v' ∧ Tr Ad w'.heap.size w' (d + 1) v' (ls.map fun p => (s :: p.1, p.2)) ∧ Below w.heap.size w w' := by
  rcases h.tr.isIface with rfl | ⟨t, q, rfl⟩
  · refine (at_nil s w).mono ?_
    rintro e w' ⟨rfl, rfl⟩
    have : ls = [] := by
      cases h using Top.ways with
      | empty => rfl
      | one v p h => obtain ⟨t, q, e, _⟩ := h.1.shape; cases e
    subst this
    exact ⟨_, rfl, .empty _, Below.refl _ _⟩
  · refine (at_some s t q w).mono ?_
    rintro e w' ⟨rfl, rfl⟩
    have hb : Below w.heap.size w (w.alloc (.cells #[.string s, .iface t q] 158)) := (Below.refl _ _).alloc (Nat.le_refl _) _
    obtain ⟨c0, c1⟩ := cell_new2 w (.string s) (.iface t q) 158
    exact ⟨_, rfl, .blame d w.heap.size s _ ls (by simp) c0 c1 (h.tr.move hb hb.size), hb⟩
theorem noSeveralB (v : Value) (xT : TypeId) (w : World) : (Instr.typeAssert (.iface 156 v) xT 170 true).run Tryz.prog w = .ok (.tuple #[.pointer none, .bool false]) w := by kernel_rfl
theorem noSev (t : TypeId) (q : Value) (ht : t = 262 ∨ t = 156) (xT : TypeId) (w : World) : (Instr.typeAssert (.iface t q) xT 170 true).run Tryz.prog w = .ok (.tuple #[.pointer none, .bool false]) w := by
  rcases ht with rfl | rfl
  · exact noSeveral q xT w
  · exact noSeveralB q xT w
/-- A row of errors in memory, below B. -/
def Errs (B : Nat) (W : World) (v : Value) (us : List Value) : Prop := ∃ a c, v = .slice a us.length c ∧ (us = [] ∨ ∃ g, g < B ∧ a = some ⟨g, 0, none⟩ ∧ ∀ (j : Nat) x, us[j]? = some x → W.cell? ⟨g, j, none⟩ = some x)
theorem Errs.later {B : Nat} {W W' : World} {v : Value} {us : List Value} (h : Errs B W v us) (hb : Below B W W') : Errs B W' v us := by
  obtain ⟨a, c, h1, h2⟩ := h
  refine ⟨a, c, h1, h2.imp id ?_⟩
  rintro ⟨g, h0, h3, h4⟩
  exact ⟨g, h0, h3, fun j x hx => (hb.cell (p := ⟨g, j, none⟩) h0).trans (h4 j x hx)⟩
theorem own_errs {W : World} {B : Nat} {v : Value} {us : List Value} (h : W.ownsRow B 46 1 v us.length us) : Errs W.heap.size W v us := by
  obtain ⟨ga, gc, rfl⟩ := own_slice h
  refine ⟨ga, gc, rfl, ?_⟩
  by_cases h0 : 0 < us.length
  · obtain ⟨g, rfl, _, h1⟩ := own_some h h0
    exact .inr ⟨g, h1, rfl, fun j x hx => by rw [h.cellAt j (by have := (List.getElem?_eq_some_iff.1 hx).1; omega)]; exact hx⟩
  · exact .inl (List.eq_nil_of_length_eq_zero (by omega))
theorem app_cell (w : World) (x : Value) : ∀ (j : Nat) u, [x][j]? = some u → (w.alloc (.cells #[x] 46)).cell? ⟨w.heap.size, j, none⟩ = some u := by
  intro j u hu
  cases j with
  | zero => simp at hu; subst hu; exact new_cell w x 46
  | succ j => simp at hu
/-- What flatten makes of one error. -/
def Flt (B : Nat) (W : World) (u : Value) (vs : List Value) : Prop :=
  (u = .nilIface ∧ vs = []) ∨ (∃ t q, u = .iface t q ∧ (t = 262 ∨ t = 156) ∧ vs = [u]) ∨
  ∃ b ev, u = .iface 170 (.pointer (some ⟨b, 0, none⟩)) ∧ b < B ∧ W.cell? ⟨b, 0, none⟩ = some ev ∧ Errs B W ev vs ∧ vs.length ≤ 1000 ∧ ∀ v ∈ vs, ∃ t q, v = .iface t q ∧ (t = 262 ∨ t = 156)
theorem Flt.later {B : Nat} {W W' : World} {u : Value} {vs : List Value} (h : Flt B W u vs) (hb : Below B W W') : Flt B W' u vs := by
  rcases h with h | h | ⟨b, ev, h1, h2, h3, h4, h5⟩
  · exact .inl h
  · exact .inr (.inl h)
  · exact .inr (.inr ⟨b, ev, h1, h2, (hb.cell (p := ⟨b, 0, none⟩) h2).trans h3, h4.later hb, h5⟩)
/-- What flatten asks of its own call on a Several's errors. -/
def FlatOk : Prop := ∀ (fv ev : Value) (xs us : List Value) (B : Nat) (w : World), B ≤ w.heap.size → w.ownsRow B 46 1 fv xs.length xs → Errs B w ev us → (∀ u ∈ us, ∃ t q, u = .iface t q ∧ (t = 262 ∨ t = 156)) → xs.length + us.length ≤ 3000 →
    Calls Tryz.prog 74 #[fv, ev] w fun e w' => ∃ v', e = .returned v' ∧ w'.ownsRow B 46 1 v' (xs ++ us).length (xs ++ us) ∧ Below B w w'
theorem isSev (v : Value) (xT : TypeId) (w : World) : (Instr.typeAssert (.iface 170 v) xT 170 true).run Tryz.prog w = .ok (.tuple #[v, .bool true]) w := by kernel_rfl
set_option maxHeartbeats 2000000 in
set_option maxRecDepth 100000 in
/-- flatten, of errors each of which is known. -/
theorem flat_step (fv ev : Value) (xs : List Value) (us : List (Value × List Value)) (B : Nat) (w : World) (hB : B ≤ w.heap.size) (ho : w.ownsRow B 46 1 fv xs.length xs) (he : Errs B w ev (us.map Prod.fst)) (hu : ∀ u ∈ us, Flt B w u.1 u.2) (hx : xs.length + ((us.map Prod.snd).flatten).length ≤ 3000) (hx2 : us.length ≤ 3000)
    (hF : (∃ u ∈ us, ∃ b, u.1 = .iface 170 (.pointer (some ⟨b, 0, none⟩))) → FlatOk) :
    Calls Tryz.prog 74 #[fv, ev] w fun e w' => ∃ v', e = .returned v' ∧ w'.ownsRow B 46 1 v' (xs ++ (us.map Prod.snd).flatten).length (xs ++ (us.map Prod.snd).flatten) ∧ Below B w w' := by
  obtain ⟨fa, fc, rfl⟩ := own_slice ho
  have HO := hid ho
  obtain ⟨ea, ec, rfl, -⟩ := id he
  rw [List.length_map] at he ⊢
  have HEr := hid he
  have HU := hid hu
  have HF := hid hF
  have HX := hid hx
  have hui : (us.length : Int) ≤ 3000 := by omega
  clear ho he hu hF hx
  go_enter Tryz.func74, Tryz.ntmps74
  go_wp2_with fail
  go_loopw [0, 6, 7, 8, 9, 12] (fun f _ _ _ _ i wr => ∃ (k : Nat) (ga : Option Addr) (gc : Nat) (y : List Value), k ≤ us.length ∧ i = .int .i64 k ∧ f = .slice ga y.length gc ∧ y = xs ++ ((us.take k).map Prod.snd).flatten ∧ wr.ownsRow B 46 1 (.slice ga y.length gc) y.length y ∧ Below B w wr) (fun _ _ _ _ _ i _ => us.length - (intOf i).toNat)
  case atStart => exact ⟨0, fa, fc, xs, Nat.zero_le _, rfl, rfl, by simp, HO.out, Below.refl _ _⟩
  case round =>
    obtain ⟨k, ga, gc, y, hk, rfl, rfl, hy, ho, hb⟩ := hrel
    have HY := hid hy
    have HOy := hid ho
    have HB := hid hb
    clear hy ho hb HO
    by_cases hlt : k < us.length
    · obtain ⟨x, hxk⟩ := at_lt us k hlt
      have HT := hid (take_next hxk)
      have HM := hid (List.mem_of_getElem? hxk)
      obtain ⟨g, hgB, rfl, hcells⟩ : ∃ g, g < B ∧ ea = some ⟨g, 0, none⟩ ∧ ∀ (j : Nat) z, (us.map Prod.fst)[j]? = some z → wr.cell? ⟨g, j, none⟩ = some z := by
        obtain ⟨a, c, h1, h2⟩ := HEr.out.later HB.out
        rcases h2 with h2 | ⟨g, h3, h4, h5⟩
        · rw [List.map_eq_nil_iff] at h2; rw [h2] at hlt; simp at hlt
        · simp only [Value.slice.injEq] at h1; rw [h1.1]; exact ⟨g, h3, h4, h5⟩
      have c1 : wr.cell? ⟨g, k, none⟩ = some x.1 := hcells k x.1 (by simp [hxk])
      have hyl : y.length + x.2.length ≤ 3000 := by
        have h1 := HX.out
        have h2 := (cut_prefix HT.out id (x.2.map id) (List.prefix_refl _)).length_le
        have h3 : y.length = xs.length + (((us.take k).map Prod.snd).flatten).length := by rw [HY.out, List.length_append]
        simp only [List.length_append, List.map_id_fun, id_eq] at h2
        omega
      have HN : Hid (xs ++ ((us.take (k + 1)).map Prod.snd).flatten = y ++ x.2) := by show _ = _; rw [HT.out, HY.out]; simp
      have hsz : B ≤ wr.heap.size := Nat.le_trans hB HB.out.size
      clear hxk hcells
      rcases (HU.out x HM.out).later HB.out with ⟨hxn, hv⟩ | ⟨t, q, hxe, ht, hv⟩ | ⟨b, sv, hxe, hbB, hcb, her, hvl, hvs⟩
      · rw [hxn] at c1
        have R : Hid (y = xs ++ ((us.take (k + 1)).map Prod.snd).flatten) := by show _ = _; rw [HN.out, hv]; simp
        go_wp2_with fail
        go_roundw
        case rel => exact ⟨k + 1, ga, gc, y, by omega, by go_num, rfl, R.out, HOy.out, HB.out⟩
        case measure => simp [intOf]; omega
      · rw [hxe] at c1
        have nS := noSev t q ht
        have R : Hid (y ++ [.iface t q] = xs ++ ((us.take (k + 1)).map Prod.snd).flatten) := by show _ = _; rw [HN.out, hv, hxe]
        have hy1 : y.length + 1 ≤ 5000 := by rw [hv] at hyl; simp at hyl; omega
        clear ht hv hxe
        go_wp2_with (at_builtin; refine wpList_errs _ rfl (.tmp 17) (.tmp 19) rfl B _ y rfl ?_ wr.heap.size 1 [.iface t q] rfl ?_ ?_ ?_ ?_ ?_; exact HOy.out.alloc _; exact app_cell wr _; intro u hu; simp at hu; subst hu; rfl; exact hy1; exact Nat.le_trans hsz (by simp); intro g1 c2 y1 w2 h2 o2 b2)
        go_roundw
        case rel => exact ⟨k + 1, g1, c2, y1, by omega, by go_num, rfl, by rw [h2.out, R.out], o2.out, (HB.out.alloc hsz _).trans b2.out⟩
        case measure => simp [intOf]; omega
      · rw [hxe] at c1
        have yS := isSev
        have R : Hid (y ++ x.2 = xs ++ ((us.take (k + 1)).map Prod.snd).flatten) := HN.out.symm
        have C := hid (HF.out ⟨x, HM.out, b, hxe⟩ (.slice ga y.length gc) sv y x.2 B wr hsz HOy.out her hvs hyl)
        clear her hvs hxe
        go_wp2_with fail
        refine C.out.mono ?_
        rintro e w2 ⟨v2, rfl, o2, b2⟩
        obtain ⟨g2, c2, rfl⟩ := own_slice o2
        have O2 := hid o2
        have B2 := hid (HB.out.trans b2)
        clear o2 b2
        generalize hyx : y ++ x.2 = yx at *
        go_wp2_with fail
        go_roundw
        case rel => exact ⟨k + 1, g2, c2, yx, by omega, by go_num, rfl, R.out, O2.out, B2.out⟩
        case measure => simp [intOf]; omega
    · have e : Hid (y = xs ++ (us.map Prod.snd).flatten) := by show _ = _; rw [HY.out, List.take_of_length_le (by omega)]
      go_wp2_with fail
      go_ret
      have h := HOy.out
      exact ⟨_, rfl, by rw [← e.out]; exact h, HB.out⟩
theorem flat_id : ∀ us : List Value, ((us.map fun u => (u, [u])).map Prod.snd).flatten = us
  | [] => rfl
  | u :: us => by simpa using flat_id us
theorem fst_id : ∀ us : List Value, (us.map fun u => (u, [u])).map Prod.fst = us
  | [] => rfl
  | u :: us => by simpa using fst_id us
theorem flat_plain : FlatOk := by
  intro fv ev xs us B w hB ho he hu hx
  have h := flat_step fv ev xs (us.map fun u => (u, [u])) B w hB ho (by rw [fst_id us]; exact he) (fun u hu' => by
    obtain ⟨v, hv, rfl⟩ := List.mem_map.1 hu'
    obtain ⟨t, q, e, ht⟩ := hu v hv
    exact .inr (.inl ⟨t, q, e, ht, rfl⟩)) (by
      have : ((us.map fun u => (u, [u])).map Prod.snd).flatten = us := flat_id us
      rw [this]; exact hx) (by simp; omega) (by
    rintro ⟨u, hu', b, hb⟩
    obtain ⟨v, hv, rfl⟩ := List.mem_map.1 hu'
    obtain ⟨t, q, e, ht⟩ := hu v hv
    simp only at hb
    rw [e] at hb
    cases hb
    rcases ht with h | h <;> cases h)
  rw [show ((us.map fun u => (u, [u])).map Prod.snd).flatten = us from flat_id us] at h
  exact h
end Go.Proofs.YtoafpfheopgdkaaGreatDoor
namespace Go.Proofs.YtoafpfheopgdkaaGreatDoor
open Go.RowKit Go.Shelf
theorem top_flt {Ad : Nat → Addr} {B d : Nat} {W : World} {u : Value} {ls : List (List ByteArray × Nat)} (h : Top Ad B W d u ls) : ∃ vs : List (Value × (List ByteArray × Nat)), Flt B W u (vs.map Prod.fst) ∧ ls = vs.map Prod.snd ∧ ∀ x ∈ vs, Chn Ad B W d x.1 x.2 := by
  cases h using Top.ways with
  | empty => exact ⟨[], .inl ⟨rfl, rfl⟩, rfl, by simp⟩
  | one v p h =>
    obtain ⟨t, q, e, ht⟩ := h.1.shape
    exact ⟨[(u, p)], .inr (.inl ⟨t, q, e, ht, rfl⟩), rfl, by simpa using h⟩
  | many b vs h =>
    obtain ⟨⟨g, c, h1, h2, h3, h4⟩, h5, h6, h7⟩ := h
    refine ⟨vs, .inr (.inr ⟨b, _, rfl, h1, h3, ⟨_, c, by simp, .inr ⟨g, h2, rfl, fun j x hx => ?_⟩⟩, by simpa using h6, fun v hv => ?_⟩), rfl, h7⟩
    · simp only [List.getElem?_map, Option.map_eq_some_iff] at hx
      obtain ⟨y, hy, rfl⟩ := hx
      exact h4 j y hy
    · obtain ⟨y, hy, rfl⟩ := List.mem_map.1 hv
      exact (h7 y hy).1.shape
theorem tops_flt {Ad : Nat → Addr} {B d : Nat} {W : World} : ∀ us : List (Value × List (List ByteArray × Nat)), (∀ u ∈ us, Top Ad B W d u.1 u.2) →
    ∃ zs : List (Value × List (Value × (List ByteArray × Nat))), zs.map Prod.fst = us.map Prod.fst ∧ (us.map Prod.snd).flatten = ((zs.map Prod.snd).flatten).map Prod.snd ∧ (∀ z ∈ zs, Flt B W z.1 (z.2.map Prod.fst)) ∧ ∀ x ∈ (zs.map Prod.snd).flatten, Chn Ad B W d x.1 x.2
  | [], _ => ⟨[], rfl, rfl, by simp, by simp⟩
  | u :: us, h => by
    obtain ⟨vs, h1, h2, h3⟩ := top_flt (h u (by simp))
    obtain ⟨zs, e1, e2, e3, e4⟩ := tops_flt us (fun x hx => h x (by simp [hx]))
    refine ⟨(u.1, vs) :: zs, by simp [e1], by simp [e2, h2], ?_, ?_⟩
    · intro z hz
      rcases List.mem_cons.1 hz with rfl | hz
      · exact h1
      · exact e3 z hz
    · intro x hx
      simp only [List.map_cons, List.flatten_cons, List.mem_append] at hx
      rcases hx with hx | hx
      · exact h3 x hx
      · exact e4 x hx
theorem fst_flat : ∀ zs : List (Value × List (Value × (List ByteArray × Nat))), ((zs.map fun z => (z.1, z.2.map Prod.fst)).map Prod.snd).flatten = ((zs.map Prod.snd).flatten).map Prod.fst
  | [] => rfl
  | z :: zs => by simpa using fst_flat zs
theorem fst_fst : ∀ zs : List (Value × List (Value × (List ByteArray × Nat))), (zs.map fun z => (z.1, z.2.map Prod.fst)).map Prod.fst = zs.map Prod.fst
  | [] => rfl
  | z :: zs => by simp
set_option maxHeartbeats 2000000 in
set_option maxRecDepth 100000 in
/-- All. -/
theorem all_top (Ad : Nat → Addr) (d : Nat) (ev : Value) (us : List (Value × List (List ByteArray × Nat))) (w : World) (he : Errs w.heap.size w ev (us.map Prod.fst)) (hT : ∀ u ∈ us, Top Ad w.heap.size w d u.1 u.2) (hn : us.length ≤ 1000) (hl : (us.map Prod.snd).flatten.length ≤ 1000) :
    Calls Tryz.prog 38 #[ev] w fun e w' => ∃ v', e = .returned v' ∧ Top Ad w'.heap.size w' d v' (us.map Prod.snd).flatten ∧ Below w.heap.size w w' := by
  obtain ⟨zs, e1, e2, e3, e4⟩ := tops_flt us hT
  have hzl : zs.length = us.length := by have := congrArg List.length e1; simpa using this
  rw [e2] at hl ⊢
  have FC := flat_step (.slice none 0 0) ev [] (zs.map fun z => (z.1, z.2.map Prod.fst)) w.heap.size w (Nat.le_refl _) (World.ownsRow_nil _ _ _ _) (by rw [fst_fst, e1]; exact he)
    (fun u hu => by obtain ⟨z, hz, rfl⟩ := List.mem_map.1 hu; exact e3 z hz) (by rw [fst_flat, List.length_map]; rw [List.length_map] at hl; simp only [List.length_nil]; omega) (by simp; omega) (fun _ => flat_plain)
  rw [fst_flat, List.nil_append] at FC
  have HF := hid FC
  have H4 := hid e4
  obtain ⟨ts, hts⟩ : ∃ ts, ts = (zs.map Prod.snd).flatten := ⟨_, rfl⟩
  rw [← hts] at HF H4 hl ⊢
  rw [List.length_map] at hl
  clear FC e1 e2 e3 e4 hts hT he hzl hn
  rcases ts with _ | ⟨x, _ | ⟨y, r⟩⟩
  · go_enter Tryz.func38, Tryz.ntmps38
    go_wp2_with fail
    refine HF.out.mono ?_
    rintro e w1 ⟨v1, rfl, ho, hb⟩
    rw [List.length_map] at ho
    obtain ⟨ga, gc, rfl⟩ := own_slice ho
    have O1 := hid ho
    have B1 := hid hb
    have C1 := hid (fun x hx => (H4.out x hx).move hb hb.size)
    clear ho hb HF H4
    go_wp2_with fail
    go_ret
    exact ⟨_, rfl, .empty, B1.out⟩
  · go_enter Tryz.func38, Tryz.ntmps38
    go_wp2_with fail
    refine HF.out.mono ?_
    rintro e w1 ⟨v1, rfl, ho, hb⟩
    rw [List.length_map] at ho
    obtain ⟨ga, gc, rfl⟩ := own_slice ho
    have O1 := hid ho
    have B1 := hid hb
    have C1 := hid (fun x hx => (H4.out x hx).move hb hb.size)
    clear ho hb HF H4
    obtain ⟨g, rfl, hg⟩ := own_some O1.out (by simp)
    have c1 : w1.cell? ⟨g, 0, none⟩ = some x.1 := by rw [O1.out.cellAt 0 (by simp)]; rfl
    go_wp2_with fail
    go_ret
    exact ⟨_, rfl, .one _ x.2 (C1.out x (by simp)), B1.out⟩
  · obtain ⟨ts, hts⟩ : ∃ ts, ts = x :: y :: r := ⟨_, rfl⟩
    have h2 : 2 ≤ ts.length := by rw [hts]; simp
    rw [← hts] at HF H4 hl ⊢
    clear hts
    have hli : (ts.length : Int) ≤ 1000 := by omega
    have h2i : (2 : Int) ≤ ts.length := by omega
    have z0 : ((ts.length : Int) == 0) = false := beq_eq_false_iff_ne.2 (by omega)
    have z1 : ((ts.length : Int) == 1) = false := beq_eq_false_iff_ne.2 (by omega)
    go_enter Tryz.func38, Tryz.ntmps38
    go_wp2_with fail
    refine HF.out.mono ?_
    rintro e w1 ⟨v1, rfl, ho, hb⟩
    rw [List.length_map] at ho
    obtain ⟨ga, gc, rfl⟩ := own_slice ho
    have O1 := hid ho
    have B1 := hid hb
    have C1 := hid (fun x hx => (H4.out x hx).move hb hb.size)
    clear ho hb HF H4
    obtain ⟨g, rfl, hg⟩ := own_some O1.out (by omega)
    have BA := hid (show Below w1.heap.size w1 (w1.alloc (.cells #[.slice (some ⟨g, 0, none⟩) ts.length gc] 172)) from (Below.refl _ _).alloc (Nat.le_refl _) _)
    have R : Hid (Top Ad (w1.alloc (.cells #[.slice (some ⟨g, 0, none⟩) ts.length gc] 172)).heap.size (w1.alloc (.cells #[.slice (some ⟨g, 0, none⟩) ts.length gc] 172)) d (.iface 170 (.pointer (some ⟨w1.heap.size, 0, none⟩))) (ts.map Prod.snd)) := by
      refine .many w1.heap.size ts ⟨⟨g, gc, by simp, by simp; omega, new_cell w1 _ _, fun j x hx => ?_⟩, h2, by omega, fun x hx => (C1.out x hx).move BA.out BA.out.size⟩
      have hj := (List.getElem?_eq_some_iff.1 hx).1
      rw [BA.out.cell (p := ⟨g, j, none⟩) hg.2, O1.out.cellAt j (by omega)]
      simp [hx]
    go_wp2_with fail
    go_ret
    exact ⟨_, rfl, R.out, B1.out.trans (BA.out.mono B1.out.size)⟩
end Go.Proofs.YtoafpfheopgdkaaGreatDoor
