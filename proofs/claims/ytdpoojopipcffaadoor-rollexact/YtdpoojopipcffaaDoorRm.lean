/- RollOnce: how it stands within the loop. -/
import Derived.Test.YtdpoojopipcffaaDoorRk
import Derived.BigQuiet
namespace Go.Proofs.YtdpoojopipcffaaDoor
open Go.RowKit Go.Shelf Go.Maps
/-- A roll, the row of those that were given, the row that says which are alive: apart in memory. -/
structure On (B : Nat) (w : World) (rb n : Nat) (gv av : Value) (gl : List (Nat × Nat)) (al : List Bool) (r : RS) (t : Nat) (S : Nat → Prop) (wr : World) : Prop where
  rol : Rol B wr rb t r S
  len : r.gens.length = n
  ents : Ents w.heap.size wr gv gl
  bls : Bools w.heap.size wr av al
  ng : ∀ x, gv.ownBlock = some x → ¬ S x
  na : ∀ x, av.ownBlock = some x → ¬ S x
  bel : Below w.heap.size w wr
  base : w.heap.size ≤ B
section
variable {B : Nat} {w wr w' : World} {rb n : Nat} {gv av : Value} {gl : List (Nat × Nat)} {al : List Bool} {r : RS} {t : Nat} {S : Nat → Prop}
theorem On.later (h : On B w rb n gv av gl al r t S wr) (hb : Below wr.heap.size wr w') : On B w rb n gv av gl al r t S w' :=
  ⟨h.rol.later hb, h.len, h.ents.kept (T := fun _ => False) (St.of_below hb) (fun _ _ q => q), h.bls.kept (T := fun _ => False) (St.of_below hb) (fun _ _ q => q), h.ng, h.na, h.bel.trans (hb.mono h.bel.size), h.base⟩
theorem On.glt (h : On B w rb n gv av gl al r t S wr) (x : Nat) (hx : gv.ownBlock = some x) : w.heap.size ≤ x ∧ x < wr.heap.size := World.ownsRow.lt h.ents x hx
theorem On.alt (h : On B w rb n gv av gl al r t S wr) (x : Nat) (hx : av.ownBlock = some x) : w.heap.size ≤ x ∧ x < wr.heap.size := World.ownsRow.lt h.bls x hx
theorem On.roll {r' : RS} {t' : Nat} {S' : Nat → Prop} (h : On B w rb n gv av gl al r t S wr) (hs : St S wr w') (h' : Rol B w' rb t' r' S') (hS : ∀ x, S' x → S x ∨ wr.heap.size ≤ x) (hl : r'.gens.length = n) : On B w rb n gv av gl al r' t' S' w' := by
  refine ⟨h', hl, h.ents.kept hs h.ng, h.bls.kept hs h.na, fun x hx q => ?_, fun x hx q => ?_, h.bel.trans ((h.rol.below hs).mono h.base), h.base⟩
  · rcases hS x q with q | q
    · exact h.ng x hx q
    · have := h.glt x hx; omega
  · rcases hS x q with q | q
    · exact h.na x hx q
    · have := h.alt x hx; omega
theorem On.ent {gv' : Value} {gl' : List (Nat × Nat)} (h : On B w rb n gv av gl al r t S wr) (he : Ents w.heap.size w' gv' gl') (hs : St (fun x => gv.ownBlock = some x) wr w') (hat : gv'.ownBlock = gv.ownBlock ∨ ∃ x, gv'.ownBlock = some x ∧ wr.heap.size ≤ x) : On B w rb n gv' av gl' al r t S w' := by
  refine ⟨h.rol.kept hs fun k hk q => h.ng k q hk, h.len, he, h.bls.kept hs fun x hx q => rows_apart h.ents h.bls x q hx, fun x hx q => ?_, h.na, h.bel.trans (hs.below (fun k hk => (h.glt k hk).1) h.bel.size), h.base⟩
  rcases hat with e | ⟨y, e, hy⟩
  · exact h.ng x (e ▸ hx) q
  · rw [e] at hx
    have := (h.rol.lt x q).2
    simp at hx
    omega
theorem On.bool {av' : Value} {al' : List Bool} (h : On B w rb n gv av gl al r t S wr) (he : Bools w.heap.size w' av' al') (hs : St (fun x => av.ownBlock = some x) wr w') (hat : av'.ownBlock = av.ownBlock ∨ ∃ x, av'.ownBlock = some x ∧ wr.heap.size ≤ x) : On B w rb n gv av' gl al' r t S w' := by
  refine ⟨h.rol.kept hs fun k hk q => h.na k q hk, h.len, h.ents.kept hs fun x hx q => rows_apart h.ents h.bls x hx q, he, h.ng, fun x hx q => ?_, h.bel.trans (hs.below (fun k hk => (h.alt k hk).1) h.bel.size), h.base⟩
  rcases hat with e | ⟨y, e, hy⟩
  · exact h.na x (e ▸ hx) q
  · rw [e] at hx
    have := (h.rol.lt x q).2
    simp at hx
    omega
theorem On.set {ab ac : Nat} (h : On B w rb n gv (.slice (some ⟨ab, 0, none⟩) al.length ac) gl al r t S wr) (k : Nat) (b : Bool) : On B w rb n gv (.slice (some ⟨ab, 0, none⟩) al.length ac) gl (al.set k b) r t S (wr.setCell ⟨ab, k, none⟩ (.bool b)) := by
  have hs : St (fun x => (Value.slice (some ⟨ab, 0, none⟩) al.length ac).ownBlock = some x) wr (wr.setCell ⟨ab, k, none⟩ (.bool b)) := St.setCell _ rfl
  refine h.bool ?_ hs (.inl rfl)
  have h1 := World.ownsRow.stored h.bls k (.bool b)
  show World.ownsRow _ _ _ _ _ _ _
  rw [List.length_set, List.map_set]
  exact h1.1
end
theorem drewN_below (W : World) (B n : Nat) : Below B W (W.drewN n) := ⟨rfl, rfl, rfl, Nat.le_refl _, fun _ _ => rfl⟩
theorem cell_bool {B : Nat} {W : World} {ab ac : Nat} {al : List Bool} (h : Bools B W (.slice (some ⟨ab, 0, none⟩) al.length ac) al) {j : Nat} {b : Bool} (hj : al[j]? = some b) : W.cell? ⟨ab, j, none⟩ = some (.bool b) ∧ W.frozen? ⟨ab, j, none⟩ = false := by
  have hlt := (List.getElem?_eq_some_iff.1 hj).1
  exact ⟨(World.ownsRow.cellAt h j (by omega)).trans (by simp [hj]), World.ownsRow.frozenAt h j⟩
theorem bools_slice {B : Nat} {W : World} {v : Value} {l : List Bool} (h : Bools B W v l) : ∃ a c, v = .slice a l.length c := by
  rcases h.2 with ⟨h1, h2⟩ | ⟨g, cap, cur, h1, _⟩
  · exact ⟨none, 0, by rw [h2]; exact h1⟩
  · exact ⟨_, _, h1⟩
theorem bools_some {B : Nat} {W : World} {a : Option Addr} {cap : Nat} {l : List Bool} (h : Bools B W (.slice a l.length cap) l) (h0 : 0 < l.length) : ∃ g, a = some ⟨g, 0, none⟩ := by
  obtain ⟨g, cap', e, h1, h2⟩ := World.ownsRow.form h h0
  simp only [Value.slice.injEq, true_and] at e
  exact ⟨g, e.1⟩
set_option maxHeartbeats 6400000 in
set_option maxRecDepth 100000 in
theorem once_law (w : World) (Ad : Nat → Addr) (hE : Env4 w Ad) (pl : Int) (v : Value) (cl : List ActI) (hA : ActRow w v cl) :
    Calls Tryd.prog 4 #[.int .i64 pl, v] w fun e w' => e = .returned (.bool true) ∧ Below w.heap.size w w' := by
  have HE := hid hE
  have HA := hid hA
  obtain ⟨a, c, rfl, -, -⟩ := hA
  obtain ⟨u, n, hn, hu, hr⟩ := rem_at pl 65 (by decide)
  have hr : u.tmod 65 = (n : Int) := hr
  have hni : (n : Int) ≤ 64 := by omega
  have AW := hid (awake_any w Ad hE)
  clear hE
  go_enter Tryd.func4, Tryd.ntmps4
  go_wp2_with fail
  refine AW.out.mono ?_
  rintro e w1 ⟨rfl, b1⟩
  have B1 := hid b1
  have NC := hid (rol_new w1 n (by omega))
  clear AW b1
  go_wp2_with fail
  refine NC.out.mono ?_
  rintro e w2 ⟨rb, S, rfl, h2, b2⟩
  have b12 := B1.out.trans (b2.mono B1.out.size)
  have O2 : Hid (On w1.heap.size w rb n (.slice (some ⟨w2.heap.size, 0, none⟩) 0 0) (.slice (some ⟨w2.heap.size + 1, 0, none⟩) 0 0) [] [] (RS.fresh n) 0 S ((w2.alloc (.cells #[] 24)).alloc (.cells #[] 4))) := by
    have bb : Below w2.heap.size w2 ((w2.alloc (.cells #[] 24)).alloc (.cells #[] 4)) := (bAl _ _).alloc (by simp) _
    refine ⟨h2.later bb, by simp [RS.fresh], (World.ownsRow_lit w2 #[] 0 (by have := b12.size; omega) (Nat.zero_le _) rfl).alloc _, ?_, fun x hx q => ?_, fun x hx q => ?_, b12.trans (bb.mono b12.size), B1.out.size⟩
    · have := World.ownsRow_lit (base := w.heap.size) (e := 4) (size := 1) (w2.alloc (.cells #[] 24)) #[] 0 (by have := b12.size; simp; omega) (Nat.zero_le _) rfl
      rw [World.size_alloc] at this
      exact this
    · have := (h2.lt x q).2; simp [Value.ownBlock] at hx; omega
    · have := (h2.lt x q).2; simp [Value.ownBlock] at hx; omega
  clear NC b2 h2 hu hr b12
  go_wp2_with fail
  go_loopw [7, 8, 9, 10, 11, 12, 13, 14] (fun gv av i _ _ _ _ _ wr => ∃ k : Nat, k ≤ 200 ∧ i = .int .i64 (k : Int) ∧ ∃ (r : RS) (t : Nat) (S : Nat → Prop) (gl : List (Nat × Nat)) (al : List Bool), t ≤ k ∧ gl.length ≤ k ∧ Hid (Once r gl al) ∧ Hid (On w1.heap.size w rb n gv av gl al r t S wr)) (fun _ _ i _ _ _ _ _ _ => 200 - (intOf i).toNat)
  case atStart => exact ⟨0, by omega, rfl, _, 0, S, [], [], Nat.le_refl _, Nat.le_refl _, Once.start n, O2.out⟩
  case round =>
    obtain ⟨k, hk, rfl, r, t, S, gl, al, htk, hgk, HC, HO⟩ := hrel
    clear O2
    obtain ⟨ga, gc, rfl⟩ := HO.out.ents.slice
    obtain ⟨va, vc, rfl⟩ := bools_slice HO.out.bls
    have hgi : (gl.length : Int) ≤ 200 := by omega
    have hai : (al.length : Int) ≤ 200 := by have := HC.out.len; omega
    by_cases hc : k < cl.length ∧ k < 200
    · obtain ⟨h1, h2⟩ := hc
      have h1i : (k : Int) < (cl.length : Int) := by omega
      have h2i : (k : Int) < 200 := by omega
      obtain ⟨x, hx⟩ := at_lt cl k h1
      obtain ⟨a', c', hv, hw, hl⟩ := HA.out.later HO.out.bel
      obtain ⟨b, o, rfl, hcl⟩ : ∃ b o, a = some ⟨b, o, none⟩ ∧ ∀ (j : Nat) (x : ActI), cl[j]? = some x → wr.cell? ⟨b, o + j * 4, none⟩ = some (.int .i64 x.kind) ∧ wr.cell? ⟨b, o + j * 4 + 1, none⟩ = some (.int .i64 x.i) ∧ wr.cell? ⟨b, o + j * 4 + 2, none⟩ = some (.int .i64 x.g) ∧ wr.cell? ⟨b, o + j * 4 + 3, none⟩ = some (.int .i64 x.n) := by
        obtain ⟨rfl, rfl⟩ : a = a' ∧ c = c' := by simpa using hv
        rcases hl with h | h
        · rw [h] at h1; simp at h1
        · exact h
      obtain ⟨c0, c1, c2, c3⟩ := hcl k x hx
      clear hcl hx hv hw hl
      by_cases hk1 : x.kind = 1
      · rw [hk1] at c0
        have O1 := hid (HO.out.later (bAl wr (.cells #[.int .i64 1, .int .i64 x.i, .int .i64 x.g, .int .i64 x.n] 36)))
        clear hk1
        by_cases hf : r.free = []
        · have TF := hid (rol_full Ad O1.out.rol (HE.out.later O1.out.bel) hf)
          have hcn : r.count = n := by unfold RS.count; rw [hf]; simpa using HO.out.len
          clear hf
          go_wp2_with fail
          refine TF.out.mono ?_
          rintro e w3 ⟨bf, rfl, -, -, b3⟩
          have O3 := hid ((O1.out.later b3).later (bAl w3 (.cells #[.int .i64 0, .int .i64 0] 24)))
          have CC := hid (rol_count O3.out.rol)
          have MC := hid (rol_most O3.out.rol)
          rw [hcn] at CC
          rw [O3.out.len] at MC
          clear b3 TF hcn
          go_wp2_with fail
          refine CC.out.mono ?_
          rintro e w4 ⟨rfl, rfl⟩
          go_wp2_with fail
          refine MC.out.mono ?_
          rintro e w4 ⟨rfl, rfl⟩
          clear CC MC
          go_wp2_with fail
          go_roundw
          case rel => exact ⟨k + 1, by omega, by go_num, r, t, S, gl, al, by omega, by omega, HC.out, O3.out⟩
          case measure => simp [intOf]; omega
        · obtain ⟨f, i, hf⟩ := free_split hf
          have TS := hid (rol_take O1.out.rol hf (by omega))
          have HC' := hid (HC.out.took HO.out.rol.ok hf)
          have hi : i < n := by have := HO.out.rol.ok.2 i (by rw [hf]; simp); have := HO.out.len; omega
          have hgl := RS.gen_le HO.out.rol (show i < r.gens.length by have := HO.out.len; omega)
          have hnew : ∀ p ∈ gl, ¬ ((p.1 : Int) = (i : Int) ∧ (p.2 : Int) = ((r.gens.getD i 0 : Nat) : Int) + 1) := by
            rintro p hp ⟨e1, e2⟩
            have h3 := (HC.out.past p hp).2
            have e1' : p.1 = i := by omega
            rw [e1'] at h3
            omega
          have HN := hid hnew
          obtain ⟨g, hg⟩ : ∃ g, g = r.gens.getD i 0 := ⟨_, rfl⟩
          rw [← hg] at TS HC' hgl HN
          have hgi2 : (g : Int) ≤ 1000 := by omega
          have hii : (i : Int) ≤ 64 := by omega
          have LN : Hid ((r.took i).gens.length = n) := by show _ = _; rw [RS.took_len]; exact HO.out.len
          clear hf hg hnew
          go_wp2_with fail
          refine TS.out.mono ?_
          rintro e w3 ⟨rfl, h3, s3⟩
          have O3 := hid ((O1.out.roll s3 h3 (fun x q => .inl q) LN.out).later (bAl w3 (.cells #[.int .i64 (i : Int), .int .i64 ((g : Int) + 1)] 24)))
          have E3 := hid (heap_alloc_new w3 (.cells #[.int .i64 (i : Int), .int .i64 ((g : Int) + 1)] 24))
          clear h3 s3 TS
          go_wp2_with fail
          go_loopw [13] (fun j wz => ∃ q : Nat, q ≤ gl.length ∧ j = .int .i64 (q : Int) ∧ Hid (Below (w3.alloc (.cells #[.int .i64 (i : Int), .int .i64 ((g : Int) + 1)] 24)).heap.size (w3.alloc (.cells #[.int .i64 (i : Int), .int .i64 ((g : Int) + 1)] 24)) wz)) (fun j _ => gl.length - (intOf j).toNat)
          case atStart => exact ⟨0, Nat.zero_le _, rfl, Below.refl _ _⟩
          case round =>
            rename World => wz
            obtain ⟨q, hq, rfl, HB⟩ := hrel
            have OZ := hid (O3.out.later HB.out)
            have EZ := hid (blk_seen HB.out (Nat.le_refl _) E3.out)
            have e0 := cell_blk EZ.out (j := 0) rfl
            have e1 := cell_blk EZ.out (j := 1) rfl
            by_cases hlt : q < gl.length
            · have hqi : (q : Int) < (gl.length : Int) := by omega
              obtain ⟨gg, rfl, -, -⟩ := OZ.out.ents.some (by omega)
              obtain ⟨p, hp⟩ := at_lt gl q hlt
              obtain ⟨d0, d1⟩ := OZ.out.ents.cell hp
              have hpp := HC.out.past p (List.mem_of_getElem? hp)
              have hgn := RS.gen_le HO.out.rol hpp.1
              have hsm := HO.out.rol.small
              have heq := eql_ent (p.1 : Int) (p.2 : Int) (i : Int) ((g : Int) + 1) (I64_small (by omega) (by omega)) (I64_small (by omega) (by omega)) (I64_small (by omega) (by omega)) (I64_small (by omega) (by omega))
              rw [decide_eq_false (HN.out p (List.mem_of_getElem? hp))] at heq
              clear hp hpp hgn hsm
              go_wp2_with fail
              go_quiet (fail)
              go_wp2_with fail
              exact ⟨⟨q + 1, by omega, by go_num, HB.out.trans (drewN_below _ _ _)⟩, by simp [intOf]; omega⟩
            · have hqi : ¬ ((q : Int) < (gl.length : Int)) := by omega
              have hg1 : gl.length ≤ 1000 := by omega
              have ha1 : al.length ≤ 1000 := by omega
              have hwz : w.heap.size ≤ wz.heap.size := OZ.out.bel.size
              have EN : Hid (Ents w.heap.size wz (.slice ga gl.length gc) gl) := OZ.out.ents
              go_wp2_with (first
                | (at_builtin; refine wpList_ent rfl _ _ rfl (g := g + 1) EN.out hg1 hwz rfl rfl ?_; intro gv' w4 ho4 hst4 hat4; have O4 := hid (OZ.out.ent ho4.out hst4.out hat4.out); have hw4 : w.heap.size ≤ w4.heap.size := O4.out.bel.size)
                | (at_builtin; refine wpList_bool rfl _ _ rfl (b := true) O4.out.bls ha1 hw4 rfl rfl ?_; intro av' w5 ho5 hst5 hat5))
              exact ⟨⟨k + 1, by omega, by go_num, r.took i, t + 1, S, gl ++ [(i, g + 1)], al ++ [true], by omega, by simp; omega, HC'.out, O4.out.bool ho5.out hst5.out hat5.out⟩, by simp [intOf]; omega⟩
      · have q1 : (x.kind == 1) = false := by simp [hk1]
        have O1 := hid (HO.out.later (bAl wr (.cells #[.int .i64 x.kind, .int .i64 x.i, .int .i64 x.g, .int .i64 x.n] 36)))
        clear hk1
        by_cases h0 : 0 < gl.length
        · have h0i : (0 : Int) < (gl.length : Int) := by omega
          have h0b : ((gl.length : Int) == 0) = false := by rw [beq_eq_false_iff_ne]; omega
          obtain ⟨gg, rfl, -, -⟩ := O1.out.ents.some h0
          obtain ⟨ab, rfl⟩ := bools_some O1.out.bls (by have := HC.out.len; omega)
          obtain ⟨u', j, hj, hu', hr'⟩ := rem_at x.n gl.length h0
          obtain ⟨p, hp⟩ := at_lt gl j hj
          have hji : (j : Int) < (gl.length : Int) := by omega
          have hjai : (j : Int) < (al.length : Int) := by have := HC.out.len; omega
          have hb := HC.out.at' j p hp
          have hpp := HC.out.past p (List.mem_of_getElem? hp)
          have hgn := RS.gen_le HO.out.rol hpp.1
          have hsm := HO.out.rol.small
          have I1 : I64 (p.1 : Int) := I64_small (by omega) (by omega)
          have I2 : I64 (p.2 : Int) := I64_small (by omega) (by omega)
          have hj64 : (j : Int) ≤ 200 := by omega
          by_cases ha : r.aliveB (p.1 : Int) (p.2 : Int) = true
          · have HC' := hid (HC.out.freed HO.out.rol.ok hp ha)
            rw [ha] at hb
            have KK : Hid (∀ W' gl' al' r' t' S', On w1.heap.size w rb n (.slice (some ⟨gg, 0, none⟩) gl.length gc) (.slice (some ⟨ab, 0, none⟩) al.length vc) gl al r' t' S' W' → gl' = gl → al' = al → W'.cell? ⟨gg, j * 2, none⟩ = some (.int .i64 (p.1 : Int)) ∧ W'.cell? ⟨gg, j * 2 + 1, none⟩ = some (.int .i64 (p.2 : Int)) ∧ W'.cell? ⟨ab, j, none⟩ = some (.bool true) ∧ W'.frozen? ⟨ab, j, none⟩ = false) := fun W' _ _ r' t' S' h _ _ =>
              ⟨(h.ents.cell hp).1, (h.ents.cell hp).2, (cell_bool h.bls hb).1, (cell_bool h.bls hb).2⟩
            have FC : Hid (Calls Tryd.prog 13 #[.pointer (some ⟨rb, 0, none⟩), .agg #[.int .i64 (p.1 : Int), .int .i64 (p.2 : Int)]] (wr.alloc (.cells #[.int .i64 x.kind, .int .i64 x.i, .int .i64 x.g, .int .i64 x.n] 36)).drew fun e w' => e = .returned .nilIface ∧ ∃ S', On w1.heap.size w rb n (.slice (some ⟨gg, 0, none⟩) gl.length gc) (.slice (some ⟨ab, 0, none⟩) al.length vc) gl al (r.freed p.1) t S' w') := by
              have OD := O1.out.later (w' := (wr.alloc (.cells #[.int .i64 x.kind, .int .i64 x.i, .int .i64 x.g, .int .i64 x.n] 36)).drew) (Below.refl _ _).drew
              refine (rol_free OD.rol p.1 (p.2 : Int) I1 I2 ha).mono ?_
              rintro e w' ⟨he, S', h', s', hS'⟩
              exact ⟨he, S', OD.roll s' h' hS' HO.out.len⟩
            have OD := hid (O1.out.later (w' := (wr.alloc (.cells #[.int .i64 x.kind, .int .i64 x.i, .int .i64 x.g, .int .i64 x.n] 36)).drew) (Below.refl _ _).drew)
            have hKD : Hid _ := KK.out _ gl al _ _ _ OD.out rfl rfl
            have KD := hid (And.intro hKD.out.1 (And.intro hKD.out.2.1 hKD.out.2.2.1))
            clear hp hb hpp hgn hsm I1 I2 ha hKD
            go_wp2_with fail
            go_region_held3 (fun W' => W'.cell? ⟨gg, j * 2, none⟩ = some (.int .i64 (p.1 : Int)) ∧ W'.cell? ⟨gg, j * 2 + 1, none⟩ = some (.int .i64 (p.2 : Int)) ∧ W'.cell? ⟨ab, j, none⟩ = some (.bool true))
              (first | exact KD.out | (obtain ⟨z0, z1, z2, z3⟩ := KK.out _ gl al _ _ _ (by assumption) rfl rfl; exact ⟨z0, z1, z2⟩))
              (first
                | (go_at_call 13; refine FC.out.mono ?_; rintro e w6 ⟨rfl, S', ho6⟩))
            obtain ⟨-, -, z2, z3⟩ := KK.out _ gl al _ _ _ ho6 rfl rfl
            have O6 := hid (ho6.set j false)
            clear KK FC KD OD ho6
            go_wp2_with fail
            go_roundw
            case rel => exact ⟨k + 1, by omega, by go_num, r.freed p.1, t, S', gl, al.set j false, by omega, by omega, HC'.out, O6.out⟩
            case measure => simp [intOf]; omega
          · have ha : r.aliveB (p.1 : Int) (p.2 : Int) = false := by simpa using ha
            have HC' := hid (HC.out.dead hp ha)
            rw [ha] at hb
            have KK : Hid (∀ W', On w1.heap.size w rb n (.slice (some ⟨gg, 0, none⟩) gl.length gc) (.slice (some ⟨ab, 0, none⟩) al.length vc) gl al r t S W' → W'.cell? ⟨gg, j * 2, none⟩ = some (.int .i64 (p.1 : Int)) ∧ W'.cell? ⟨gg, j * 2 + 1, none⟩ = some (.int .i64 (p.2 : Int)) ∧ W'.cell? ⟨ab, j, none⟩ = some (.bool false) ∧ W'.frozen? ⟨ab, j, none⟩ = false) := fun W' h =>
              ⟨(h.ents.cell hp).1, (h.ents.cell hp).2, (cell_bool h.bls hb).1, (cell_bool h.bls hb).2⟩
            have FC : Hid (Calls Tryd.prog 13 #[.pointer (some ⟨rb, 0, none⟩), .agg #[.int .i64 (p.1 : Int), .int .i64 (p.2 : Int)]] (wr.alloc (.cells #[.int .i64 x.kind, .int .i64 x.i, .int .i64 x.g, .int .i64 x.n] 36)).drew fun e w' => ∃ tt q, e = .returned (.iface tt q) ∧ On w1.heap.size w rb n (.slice (some ⟨gg, 0, none⟩) gl.length gc) (.slice (some ⟨ab, 0, none⟩) al.length vc) gl al r t S w') := by
              have OD := O1.out.later (w' := (wr.alloc (.cells #[.int .i64 x.kind, .int .i64 x.i, .int .i64 x.g, .int .i64 x.n] 36)).drew) (Below.refl _ _).drew
              refine (rol_dead Ad OD.rol (HE.out.later OD.bel) (p.1 : Int) (p.2 : Int) I1 I2 ha).mono ?_
              rintro e w' ⟨v, he, hv, h⟩
              obtain ⟨tt, q, rfl⟩ := hv.shape
              exact ⟨tt, q, he, OD.later h⟩
            have OD := hid (O1.out.later (w' := (wr.alloc (.cells #[.int .i64 x.kind, .int .i64 x.i, .int .i64 x.g, .int .i64 x.n] 36)).drew) (Below.refl _ _).drew)
            have hKD : Hid _ := KK.out _ OD.out
            have KD := hid (And.intro hKD.out.1 (And.intro hKD.out.2.1 hKD.out.2.2.1))
            clear hp hb hpp hgn hsm I1 I2 ha hKD
            go_wp2_with fail
            go_region_held3 (fun W' => W'.cell? ⟨gg, j * 2, none⟩ = some (.int .i64 (p.1 : Int)) ∧ W'.cell? ⟨gg, j * 2 + 1, none⟩ = some (.int .i64 (p.2 : Int)) ∧ W'.cell? ⟨ab, j, none⟩ = some (.bool false))
              (first | exact KD.out | (obtain ⟨z0, z1, z2, z3⟩ := KK.out _ (by assumption); exact ⟨z0, z1, z2⟩))
              (first
                | (go_at_call 13; refine FC.out.mono ?_; rintro e w6 ⟨tt, qq, rfl, ho6⟩))
            obtain ⟨-, -, z2, z3⟩ := KK.out _ ho6
            have O6 := hid (ho6.set j false)
            clear KK FC KD OD ho6
            go_wp2_with fail
            go_roundw
            case rel => exact ⟨k + 1, by omega, by go_num, r, t, S, gl, al.set j false, by omega, by omega, HC'.out, O6.out⟩
            case measure => simp [intOf]; omega
        · have h0b : gl.length = 0 := by omega
          have h0i : ((gl.length : Int) == 0) = true := by rw [h0b]; rfl
          clear h0b
          go_wp2_with fail
          go_roundw
          case rel => exact ⟨k + 1, by omega, by go_num, r, t, S, gl, al, by omega, by omega, HC.out, O1.out⟩
          case measure => simp [intOf]; omega
    · by_cases h1 : k < cl.length
      · have h1i : (k : Int) < (cl.length : Int) := by omega
        have h2i : ¬ ((k : Int) < 200) := by omega
        clear hc
        rename World => wo
        go_wp2_with fail
        go_loopw [15, 16] (fun m j wz => ∃ q : Nat, q ≤ gl.length ∧ j = .int .i64 (q : Int) ∧ (∃ z : Nat, m = .int .i64 (z : Int) ∧ z ≤ q ∧ Hid (z = trues (al.take q))) ∧ Hid (Below wo.heap.size wo wz)) (fun _ j _ => gl.length - (intOf j).toNat)
        case atStart => exact ⟨0, Nat.zero_le _, rfl, ⟨0, rfl, Nat.le_refl _, by simp [trues, Hid]⟩, Below.refl _ _⟩
        case round =>
          rename World => wz
          obtain ⟨q, hq, rfl, ⟨z, rfl, hzq, HZ⟩, HB⟩ := hrel
          have O3 := hid (HO.out.later HB.out)
          by_cases hlt : q < gl.length
          · have hqi : (q : Int) < (gl.length : Int) := by omega
            have hqa : q < al.length := by rw [← HC.out.len]; exact hlt
            have hqai : (q : Int) < (al.length : Int) := by omega
            obtain ⟨gg, rfl, -, -⟩ := O3.out.ents.some (by omega)
            obtain ⟨ab, rfl⟩ := bools_some O3.out.bls (by omega)
            obtain ⟨p, hp⟩ := at_lt gl q hlt
            have hb := HC.out.at' q p hp
            obtain ⟨b, hbb⟩ : ∃ b, r.aliveB (p.1 : Int) (p.2 : Int) = b := ⟨_, rfl⟩
            rw [hbb] at hb
            have hpp := HC.out.past p (List.mem_of_getElem? hp)
            have hgn := RS.gen_le HO.out.rol hpp.1
            have hsm := HO.out.rol.small
            have KK : Hid (∀ W', Below wz.heap.size wz W' → W'.cell? ⟨gg, q * 2, none⟩ = some (.int .i64 (p.1 : Int)) ∧ W'.cell? ⟨gg, q * 2 + 1, none⟩ = some (.int .i64 (p.2 : Int)) ∧ W'.cell? ⟨ab, q, none⟩ = some (.bool b)) := fun W' hb' =>
              ⟨((O3.out.later hb').ents.cell hp).1, ((O3.out.later hb').ents.cell hp).2, (cell_bool (O3.out.later hb').bls hb).1⟩
            have AC : Hid (∀ W', Below wz.heap.size wz W' → Calls Tryd.prog 15 #[.pointer (some ⟨rb, 0, none⟩), .agg #[.int .i64 (p.1 : Int), .int .i64 (p.2 : Int)]] W' fun e w' => e = .returned (.bool b) ∧ Below wz.heap.size wz w') := fun W' hb' => by
              rw [← hbb]
              exact (rol_alive (O3.out.later hb').rol _ _ (I64_small (by omega) (by omega)) (I64_small (by omega) (by omega))).mono fun e w' ⟨he, h⟩ => ⟨he, hb'.trans (h.mono hb'.size)⟩
            have KB := hid (KK.out _ (Below.refl _ _)).2.2
            have TT : Hid (trues (al.take (q + 1)) = z + (if b = true then 1 else 0)) := by
              show trues (al.take (q + 1)) = _
              rw [take_next hb, HZ.out]
              unfold trues
              rw [List.count_append]
              cases b <;> simp
            clear hp hb hbb hpp hgn hsm
            go_wp2_with fail
            go_region_held3 (fun W' => W'.cell? ⟨gg, q * 2, none⟩ = some (.int .i64 (p.1 : Int)) ∧ W'.cell? ⟨gg, q * 2 + 1, none⟩ = some (.int .i64 (p.2 : Int)) ∧ W'.cell? ⟨ab, q, none⟩ = some (.bool b))
              (first | exact KK.out _ (by assumption) | exact KK.out _ (Below.refl _ _).drew)
              (first
                | (go_at_call 15; refine (AC.out _ (by first | assumption | exact (Below.refl _ _).drew)).mono ?_; rintro e w6 ⟨rfl, hb6⟩))
            have B6 := hid (HB.out.trans (hb6.mono HB.out.size))
            have kb := (KK.out _ hb6).2.2
            clear KK AC hb6
            cases b
            · have R : Hid (trues (al.take (q + 1)) = z) := by show _ = _; rw [TT.out]; simp
              go_wp2_with fail
              go_roundw
              case rel => exact ⟨q + 1, by omega, by go_num, ⟨z, rfl, by omega, R.out.symm⟩, B6.out⟩
              case measure => simp [intOf]; omega
            · have R : Hid (trues (al.take (q + 1)) = z + 1) := by show _ = _; rw [TT.out]; simp
              go_wp2_with fail
              go_roundw
              case rel => exact ⟨q + 1, by omega, by go_num, ⟨z + 1, by go_num, by omega, R.out.symm⟩, B6.out⟩
              case measure => simp [intOf]; omega
          · have hqi : ¬ ((q : Int) < (gl.length : Int)) := by omega
            have hz : r.count = z := by
              rw [HZ.out, List.take_of_length_le (by rw [← HC.out.len]; omega)]
              exact HC.out.many.symm
            have CC := hid (rol_count O3.out.rol)
            have LC := hid (rol_list O3.out.rol (by omega))
            rw [hz] at CC
            have AL : Hid (r.all.length = z) := (RS.all_count O3.out.rol.ok).trans hz
            clear hz
            go_wp2_with fail
            refine CC.out.mono ?_
            rintro e w5 ⟨rfl, rfl⟩
            clear CC
            go_wp2_with fail
            refine LC.out.mono ?_
            rintro e w6 ⟨lv, rfl, hl, b6⟩
            obtain ⟨la, lc, rfl⟩ := hl.slice
            rw [AL.out]
            have B6 := hid (O3.out.bel.trans (b6.mono O3.out.bel.size))
            clear hl b6 LC
            go_wp2_with fail
            go_ret
            exact ⟨rfl, B6.out⟩
      · have h1i : ¬ ((k : Int) < (cl.length : Int)) := by omega
        clear hc
        rename World => wo
        go_wp2_with fail
        go_loopw [15, 16] (fun m j wz => ∃ q : Nat, q ≤ gl.length ∧ j = .int .i64 (q : Int) ∧ (∃ z : Nat, m = .int .i64 (z : Int) ∧ z ≤ q ∧ Hid (z = trues (al.take q))) ∧ Hid (Below wo.heap.size wo wz)) (fun _ j _ => gl.length - (intOf j).toNat)
        case atStart => exact ⟨0, Nat.zero_le _, rfl, ⟨0, rfl, Nat.le_refl _, by simp [trues, Hid]⟩, Below.refl _ _⟩
        case round =>
          rename World => wz
          obtain ⟨q, hq, rfl, ⟨z, rfl, hzq, HZ⟩, HB⟩ := hrel
          have O3 := hid (HO.out.later HB.out)
          by_cases hlt : q < gl.length
          · have hqi : (q : Int) < (gl.length : Int) := by omega
            have hqa : q < al.length := by rw [← HC.out.len]; exact hlt
            have hqai : (q : Int) < (al.length : Int) := by omega
            obtain ⟨gg, rfl, -, -⟩ := O3.out.ents.some (by omega)
            obtain ⟨ab, rfl⟩ := bools_some O3.out.bls (by omega)
            obtain ⟨p, hp⟩ := at_lt gl q hlt
            have hb := HC.out.at' q p hp
            obtain ⟨b, hbb⟩ : ∃ b, r.aliveB (p.1 : Int) (p.2 : Int) = b := ⟨_, rfl⟩
            rw [hbb] at hb
            have hpp := HC.out.past p (List.mem_of_getElem? hp)
            have hgn := RS.gen_le HO.out.rol hpp.1
            have hsm := HO.out.rol.small
            have KK : Hid (∀ W', Below wz.heap.size wz W' → W'.cell? ⟨gg, q * 2, none⟩ = some (.int .i64 (p.1 : Int)) ∧ W'.cell? ⟨gg, q * 2 + 1, none⟩ = some (.int .i64 (p.2 : Int)) ∧ W'.cell? ⟨ab, q, none⟩ = some (.bool b)) := fun W' hb' =>
              ⟨((O3.out.later hb').ents.cell hp).1, ((O3.out.later hb').ents.cell hp).2, (cell_bool (O3.out.later hb').bls hb).1⟩
            have AC : Hid (∀ W', Below wz.heap.size wz W' → Calls Tryd.prog 15 #[.pointer (some ⟨rb, 0, none⟩), .agg #[.int .i64 (p.1 : Int), .int .i64 (p.2 : Int)]] W' fun e w' => e = .returned (.bool b) ∧ Below wz.heap.size wz w') := fun W' hb' => by
              rw [← hbb]
              exact (rol_alive (O3.out.later hb').rol _ _ (I64_small (by omega) (by omega)) (I64_small (by omega) (by omega))).mono fun e w' ⟨he, h⟩ => ⟨he, hb'.trans (h.mono hb'.size)⟩
            have KB := hid (KK.out _ (Below.refl _ _)).2.2
            have TT : Hid (trues (al.take (q + 1)) = z + (if b = true then 1 else 0)) := by
              show trues (al.take (q + 1)) = _
              rw [take_next hb, HZ.out]
              unfold trues
              rw [List.count_append]
              cases b <;> simp
            clear hp hb hbb hpp hgn hsm
            go_wp2_with fail
            go_region_held3 (fun W' => W'.cell? ⟨gg, q * 2, none⟩ = some (.int .i64 (p.1 : Int)) ∧ W'.cell? ⟨gg, q * 2 + 1, none⟩ = some (.int .i64 (p.2 : Int)) ∧ W'.cell? ⟨ab, q, none⟩ = some (.bool b))
              (first | exact KK.out _ (by assumption) | exact KK.out _ (Below.refl _ _).drew)
              (first
                | (go_at_call 15; refine (AC.out _ (by first | assumption | exact (Below.refl _ _).drew)).mono ?_; rintro e w6 ⟨rfl, hb6⟩))
            have B6 := hid (HB.out.trans (hb6.mono HB.out.size))
            have kb := (KK.out _ hb6).2.2
            clear KK AC hb6
            cases b
            · have R : Hid (trues (al.take (q + 1)) = z) := by show _ = _; rw [TT.out]; simp
              go_wp2_with fail
              go_roundw
              case rel => exact ⟨q + 1, by omega, by go_num, ⟨z, rfl, by omega, R.out.symm⟩, B6.out⟩
              case measure => simp [intOf]; omega
            · have R : Hid (trues (al.take (q + 1)) = z + 1) := by show _ = _; rw [TT.out]; simp
              go_wp2_with fail
              go_roundw
              case rel => exact ⟨q + 1, by omega, by go_num, ⟨z + 1, by go_num, by omega, R.out.symm⟩, B6.out⟩
              case measure => simp [intOf]; omega
          · have hqi : ¬ ((q : Int) < (gl.length : Int)) := by omega
            have hz : r.count = z := by
              rw [HZ.out, List.take_of_length_le (by rw [← HC.out.len]; omega)]
              exact HC.out.many.symm
            have CC := hid (rol_count O3.out.rol)
            have LC := hid (rol_list O3.out.rol (by omega))
            rw [hz] at CC
            have AL : Hid (r.all.length = z) := (RS.all_count O3.out.rol.ok).trans hz
            clear hz
            go_wp2_with fail
            refine CC.out.mono ?_
            rintro e w5 ⟨rfl, rfl⟩
            clear CC
            go_wp2_with fail
            refine LC.out.mono ?_
            rintro e w6 ⟨lv, rfl, hl, b6⟩
            obtain ⟨la, lc, rfl⟩ := hl.slice
            rw [AL.out]
            have B6 := hid (O3.out.bel.trans (b6.mono O3.out.bel.size))
            clear hl b6 LC
            go_wp2_with fail
            go_ret
            exact ⟨rfl, B6.out⟩
end Go.Proofs.YtdpoojopipcffaaDoor
