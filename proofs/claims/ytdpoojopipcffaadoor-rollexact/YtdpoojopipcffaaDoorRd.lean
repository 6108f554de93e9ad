/- Free. -/
import Derived.Test.YtdpoojopipcffaaDoorRc
import Derived.Deep.RegionLaw
import Derived.Deep.AppendLies
namespace Go.Proofs.YtdpoojopipcffaaDoor
open Go.RowKit Go.Shelf Go.Maps
set_option maxHeartbeats 800000 in
set_option maxRecDepth 100000 in
theorem free_nil (Ad : Nat → Addr) (W : World) (hE : Env4 W Ad) (i g : Int) :
    Calls Tryd.prog 13 #[.pointer none, .agg #[.int .i64 i, .int .i64 g]] W fun e W' => ∃ v, e = .returned v ∧ ErrAt Ad W' v bFree 2 ∧ Below W.heap.size W W' := by
  have BA : Hid (Below W.heap.size W (W.alloc (.cells #[.int .i64 i, .int .i64 g] 24))) := (Below.refl _ _).alloc (Nat.le_refl _) _
  have e2 := hE.c2
  have hl := World.block_lt_of_cell? W _ e2
  have hn := World.new_ne W _ e2
  have AC := hid (at_err Ad bFree 2 (by decide) (W.alloc (.cells #[.int .i64 i, .int .i64 g] 24)))
  clear hE
  go_enter Tryd.func13, Tryd.ntmps13
  go_wp2_with fail
  refine AC.out.mono ?_
  rintro e w1 ⟨v, rfl, hv, hb⟩
  have HV := hid hv
  have HB := hid (BA.out.trans (hb.mono BA.out.size))
  clear hv hb e2 hl hn AC
  go_wp2_with fail
  go_ret
  exact ⟨v, rfl, HV.out, HB.out⟩
set_option maxHeartbeats 800000 in
set_option maxRecDepth 100000 in
theorem free_dead (Ad : Nat → Addr) {B : Nat} {W : World} {rb gb mb t : Nat} {fv : Value} {r : RS} (h : Rl B W rb gb mb fv t r) (hE : Env4 W Ad) (i g : Int) (hi : I64 i) (hg : I64 g) (ha : r.aliveB i g = false) :
    Calls Tryd.prog 13 #[.pointer (some ⟨rb, 0, none⟩), .agg #[.int .i64 i, .int .i64 g]] W fun e W' => ∃ v, e = .returned v ∧ ErrAt Ad W' v bFree 17 ∧ Below W.heap.size W W' := by
  have BA : Hid (Below W.heap.size W (W.alloc (.cells #[.int .i64 i, .int .i64 g] 24))) := (Below.refl _ _).alloc (Nat.le_refl _) _
  have HE := hid hE
  have AL := hid (alive_any (h.later BA.out) i g hi hg)
  rw [ha] at AL
  have AC := hid (fun w => at_err Ad bFree 17 (by decide) w)
  clear hE h hi hg ha
  go_enter Tryd.func13, Tryd.ntmps13
  go_wp2_with fail
  refine AL.out.mono ?_
  rintro e w1 ⟨rfl, hb⟩
  have HB := hid (BA.out.trans (hb.mono BA.out.size))
  have e17 := (HE.out.later HB.out).c17
  clear hb AL
  go_wp2_with fail
  refine (AC.out _).mono ?_
  rintro e w2 ⟨v, rfl, hv, hb2⟩
  have HV := hid hv
  have HB2 := hid (HB.out.trans (hb2.mono HB.out.size))
  clear hv hb2 e17 AC
  go_wp2_with fail
  go_ret
  exact ⟨v, rfl, HV.out, HB2.out⟩
theorem infoInt : (Tryd.prog.info? 3).map (fun i => (i.zero, i.size, i.bytes)) = some (some (.int .i64 0), 1, 8) := by kernel_rfl
/-- What an append onto the row of the free ones leaves. -/
structure Grew (B : Nat) (fv : Value) (l : List Nat) (wc : World) (fv' : Value) (w2 : World) : Prop where
  own : w2.ownsRow B 3 1 fv' l.length (l.map gI)
  st : St (fun x => fv.ownBlock = some x) wc w2
  at' : fv'.ownBlock = fv.ownBlock ∨ ∃ x, fv'.ownBlock = some x ∧ wc.heap.size ≤ x
theorem step_free {ops : Array Oper} {o : Oper} {a : Act} {K : Act → World → Prop} {Q : Exit → Act → World → Prop} {E : Prop} (hgd : o.guard = none) (s x : Operand)
    (ho : o.op = .call { callee := .builtin .append, args := #[s, x], argTypes := #[53, 53] }) {B rb : Nat} {wc : World} {fv : Value} {f : List Nat} {k : Nat} (hown : wc.ownsRow B 3 1 fv f.length (f.map gI)) (hl : f.length ≤ 1000) (hB : B ≤ wc.heap.size)
    {cs : Array Value} (hbox : wc.heap[rb]? = some (.cells cs 56 (0, 0))) (hcs : cs[1]? = some fv) (hne : fv.ownBlock ≠ some rb)
    (hs : a.eval s = fv) (hx : a.eval x = .slice (some ⟨wc.heap.size, 0, none⟩) 1 1)
    (h : ∀ g' cap w2, Grew B fv (f ++ [k]) wc (.slice (some ⟨g', 0, none⟩) (f.length + 1) cap) w2 → w2.cell? ⟨rb, 1, none⟩ = some fv → w2.frozen? ⟨rb, 1, none⟩ = false → K (a.put o.dst (.slice (some ⟨g', 0, none⟩) (f.length + 1) cap)) w2) :
    if Region.wanted o (yielded ops a.tmps) = true then Oper.wp Tryd.prog o a (wc.alloc (.cells #[.int .i64 (k : Int)] 3)).drew K Q else E := by
  obtain ⟨i0, hi, hz0, hz1, hz2⟩ := info_parts infoInt
  have hb : Below wc.heap.size wc (wc.alloc (.cells #[.int .i64 (k : Int)] 3)).drew := ((Below.refl _ _).alloc (Nat.le_refl _) _).drew
  have ho2 : (wc.alloc (.cells #[.int .i64 (k : Int)] 3)).drew.ownsRow B 3 1 fv f.length (f.map gI) := hown.alloc _
  have hz : (wc.alloc (.cells #[.int .i64 (k : Int)] 3)).drew.heap.size = wc.heap.size + 1 := by simp
  refine step_append_lies _ hgd s x 53 ho B 3 i0 (.int .i64 0) 1 8 Tryd.underlying53 hi hz0 hz1 hz2 rfl (by decide) fv f.length (f.map gI) hs ho2 ⟨wc.heap.size, 0, none⟩ 1 1 [gI k] hx rfl (fun j u hu => by
    rw [add_at]
    match j, hu with
    | 0, hu =>
      simp at hu
      subst hu
      exact new_cell wc _ 3
    | j + 1, hu => simp at hu) (by intro u hu; simp at hu; subst hu; rfl) (by decide) (by unfold maxLen; omega) (by omega) (by omega) (wc.heap.size + 1) hz ?_
  intro g' cap w2 ow hg hat hlt
  have st : St (fun x => fv.ownBlock = some x) wc w2 := (St.of_below hb).trans (St.of_grown (S := fun x => fv.ownBlock = some x) hg fun k e => e) fun _ _ q => q
  have hbx : w2.heap[rb]? = some (.cells cs 56 (0, 0)) := (st.block rb (Array.getElem?_eq_some_iff.1 hbox).1 hne).trans hbox
  refine h g' cap w2 ⟨?_, st, ?_⟩ (cell_blk hbx hcs) (blk_free hbx 1)
  · have e : (f ++ [k]).length = f.length + 1 := by simp
    rw [e, List.map_append]
    exact ow
  · rcases hat with h1 | h1
    · exact .inl (by rw [h1]; rfl)
    · exact .inr ⟨g', rfl, by omega⟩
/-- What Free leaves. -/
theorem Rl.gone {B : Nat} {w1 w5 : World} {rb gb mb t : Nat} {fv fv' : Value} {r : RS} {k : Nat} {g : Int} (h : Rl B w1 rb gb mb fv t r) (ha : r.aliveB (k : Int) g = true) (hs : St (fun x => x = mb ∨ fv.ownBlock = some x) w1 w5)
    (D : DataW Unit) (hD1 : w1.ownsMap Tryd.prog 24 (unitElem (H := Unit)) mb t D) (hH : Holds D r) (hk : I64 (k : Int)) (hg : I64 g) (hD : w5.ownsMap Tryd.prog 24 (unitElem (H := Unit)) mb t (D.del (kl k g)))
    (ho : w5.ownsRow B 3 1 fv' (r.free ++ [k]).length ((r.free ++ [k]).map gI)) (hat : fv'.ownBlock = fv.ownBlock ∨ ∃ x, fv'.ownBlock = some x ∧ w1.heap.size ≤ x) :
    Rl B (w5.setCell ⟨rb, 1, none⟩ fv') rb gb mb fv' t (r.freed k) ∧ St (Ft rb gb mb fv) w1 (w5.setCell ⟨rb, 1, none⟩ fv') := by
  have l1 : rb < w1.heap.size := (h.lt rb (.inl rfl)).2
  have l2 : gb < w1.heap.size := (h.lt gb (.inr (.inl rfl))).2
  have hnb : ∀ x, fv'.ownBlock = some x → x ≠ rb ∧ x ≠ gb := fun x hx => by
    rcases hat with h1 | ⟨y, h1, h2⟩
    · have := h.ne_f x (h1 ▸ hx); exact ⟨this.1, this.2.1⟩
    · rw [h1] at hx; simp at hx; omega
  have hnr : ¬ (rb = mb ∨ fv.ownBlock = some rb) := fun e => e.elim h.ne_rm (fun e => (h.ne_f rb e).1 rfl)
  have hng : ¬ (gb = mb ∨ fv.ownBlock = some gb) := fun e => e.elim h.ne_gm h.apart
  have hok : (r.freed k).ok := by have := RS.freed_ok h.ok ha; simpa using this
  have B5 := (hs.block rb l1 hnr).trans h.box
  have G5 := (hs.block gb l2 hng).trans h.gens
  refine ⟨⟨?_, ?_, ?_, ?_, hok, h.small, h.old, h.low, fun e => (hnb gb e).2 rfl⟩, ?_⟩
  · exact heap_setCell_same _ rb 1 _ 56 _ B5
  · exact (Below.heap_setCell _ _ _ _ (fun e => h.ne_rg e.symm)).trans G5
  · refine own_later ho fun x cur hx hb => ?_
    exact (Below.heap_setCell _ _ _ _ (hnb x hx).1).trans hb
  · have hH' := hH.freed (hD1.tidy keyed24) ha hk hg
    simp only [Int.toNat_natCast] at hH'
    exact ⟨_, hD.setCell (fun e => h.ne_rm e.symm) _, hH'⟩
  · exact (St.trans (S := Ft rb gb mb fv) ⟨hs.os, hs.tape, hs.output, hs.size, fun x hx hn => hs.block x hx fun e => hn (e.elim (fun e => .inr (.inr (.inl e))) (fun e => .inr (.inr (.inr e))))⟩ (St.setCell (S := Ft rb gb mb fv) (p := ⟨rb, 1, none⟩) fv' (.inl rfl)) fun _ _ q => q)
set_option maxHeartbeats 1600000 in
set_option maxRecDepth 100000 in
theorem free_alive {B : Nat} {W : World} {rb gb mb t : Nat} {fv : Value} {r : RS} (h : Rl B W rb gb mb fv t r) (k : Nat) (g : Int) (hi : I64 (k : Int)) (hg : I64 g) (ha : r.aliveB (k : Int) g = true) :
    Calls Tryd.prog 13 #[.pointer (some ⟨rb, 0, none⟩), .agg #[.int .i64 (k : Int), .int .i64 g]] W fun e W' => e = .returned .nilIface ∧ ∃ fv', Rl B W' rb gb mb fv' t (r.freed k) ∧ (fv'.ownBlock = fv.ownBlock ∨ ∃ x, fv'.ownBlock = some x ∧ W.heap.size ≤ x) ∧ St (Ft rb gb mb fv) W W' := by
  obtain ⟨fa, fc, rfl⟩ := own_slice h.free
  have BA : Hid (Below W.heap.size W (W.alloc (.cells #[.int .i64 (k : Int), .int .i64 g] 24))) := (Below.refl _ _).alloc (Nat.le_refl _) _
  have AL := hid (alive_any (h.later BA.out) (k : Int) g hi hg)
  rw [ha] at AL
  have H := hid h
  have HI := hid hi
  have HG := hid hg
  have HA := hid ha
  have hlB : B ≤ W.heap.size := by have := h.lt rb (.inl rfl); omega
  clear h hi hg ha
  go_enter Tryd.func13, Tryd.ntmps13
  go_wp2_with fail
  refine AL.out.mono ?_
  rintro e w1 ⟨rfl, hb⟩
  have HB := hid (BA.out.trans (hb.mono BA.out.size))
  have hz1 : W.heap.size < w1.heap.size := by have := hb.size; simp at this; omega
  have EB := hid (blk_seen hb (Nat.le_refl _) (heap_alloc_new W (.cells #[.int .i64 (k : Int), .int .i64 g] 24)))
  clear hb AL
  go_wp2_with fail
  have h1 := H.out.later HB.out
  obtain ⟨D, hD, hH⟩ := h1.map
  obtain ⟨w2, hdel, hD2, ht2⟩ := hD.drew.drop keyed24 Tryd.underlying54 (key_ent _ g HI.out HG.out) 0
  unfold entV at hdel
  have s12' : St (fun x => x = mb) w1.drew w2 := St.of_grown ht2.grown fun k e => by simpa using e.symm
  have s12 : St (fun x => x = mb) w1 w2 := ⟨s12'.os, s12'.tape, s12'.output, s12'.size, s12'.block⟩
  have lmb : mb < W.heap.size := (H.out.lt mb (.inr (.inr (.inl rfl)))).2
  have E2 := (s12.block W.heap.size hz1 (by omega)).trans EB.out
  have X2 := (s12.block rb (h1.lt rb (.inl rfl)).2 h1.ne_rm).trans h1.box
  have F2 : w2.ownsRow B 3 1 (.slice fa r.free.length fc) r.free.length (r.free.map gI) := own_later (h1.free) fun x cur hx hb => (s12.block x (h1.lt x (.inr (.inr (.inr hx)))).2 (h1.ne_f x hx).2.2).trans hb
  have K1 : Hid (w1.drew.cell? ⟨rb, 2, none⟩ = some (.map (some mb)) ∧ w1.drew.cell? ⟨W.heap.size, 0, none⟩ = some (.int .i64 (k : Int)) ∧ w1.drew.cell? ⟨W.heap.size, 1, none⟩ = some (.int .i64 g)) :=
    ⟨cell_blk (W := w1) h1.box rfl, cell_blk (W := w1) EB.out rfl, cell_blk (W := w1) EB.out rfl⟩
  have K2 : Hid (w2.cell? ⟨rb, 2, none⟩ = some (.map (some mb)) ∧ w2.cell? ⟨W.heap.size, 0, none⟩ = some (.int .i64 (k : Int)) ∧ w2.cell? ⟨W.heap.size, 1, none⟩ = some (.int .i64 g)) :=
    ⟨cell_blk X2 rfl, cell_blk E2 rfl, cell_blk E2 rfl⟩
  have H1 := hid h1
  have HD1 := hid hD
  have HH := hid hH
  have HD2 := hid hD2
  have S12 := hid s12
  have HF2 := hid F2
  have HX2 := hid X2
  clear h1 hD hH hD2 ht2 s12 s12' F2 X2 E2
  go_region_held3 (fun W' => W'.cell? ⟨rb, 2, none⟩ = some (.map (some mb)) ∧ W'.cell? ⟨W.heap.size, 0, none⟩ = some (.int .i64 (k : Int)) ∧ W'.cell? ⟨W.heap.size, 1, none⟩ = some (.int .i64 g)) (first | exact K1.out | exact K2.out) (fail)
  clear hdel K1
  go_wp2_with fail
  have k0 := K2.out.2.1
  have x1 := cell_blk HX2.out (j := 1) rfl
  have hfl : r.free.length ≤ 1000 := by have := H1.out.few; have := H1.out.small; omega
  have hne : (Value.slice fa r.free.length fc).ownBlock ≠ some rb := fun e => (H1.out.ne_f rb e).1 rfl
  have hB2 : B ≤ w2.heap.size := by have := S12.out.size; omega
  have hrl : rb < w2.heap.size := World.block_lt_of_cell? w2 _ x1
  have hrn : ¬ (rb = w2.heap.size) := by omega
  clear K2
  go_region_law (refine step_free rfl _ _ rfl HF2.out hfl hB2 HX2.out rfl hne rfl rfl ?_; intro g' cap w5 hgr hx5 hf5)
  all_goals
    have hDD : w5.ownsMap Tryd.prog 24 (unitElem (H := Unit)) mb t (D.del (kl k g)) := by
      have hlt := HD2.out.lt
      obtain ⟨es, cl, hb, q⟩ := HD2.out
      exact ⟨es, cl, (hgr.st.block mb hlt (fun e => (H1.out.ne_f mb e).2.2 rfl)).trans hb, q⟩
    have HAT : Hid ((Value.slice (some ⟨g', 0, none⟩) (r.free.length + 1) cap).ownBlock = (Value.slice fa r.free.length fc).ownBlock ∨ ∃ x, (Value.slice (some ⟨g', 0, none⟩) (r.free.length + 1) cap).ownBlock = some x ∧ w1.heap.size ≤ x) := by
      rcases hgr.at' with h | ⟨x, h, h'⟩
      · exact .inl h
      · exact .inr ⟨x, h, Nat.le_trans S12.out.size h'⟩
    have hfin := H1.out.gone (fv' := .slice (some ⟨g', 0, none⟩) (r.free.length + 1) cap) HA.out ((show St (fun x => x = mb ∨ (Value.slice fa r.free.length fc).ownBlock = some x) _ _ from ⟨S12.out.os, S12.out.tape, S12.out.output, S12.out.size, fun x hx hn => S12.out.block x hx fun e => hn (.inl e)⟩).trans hgr.st fun _ _ q => .inr q) D HD1.out HH.out HI.out HG.out hDD hgr.own HAT.out
    have HF := hid hfin
    clear hgr hfin hx5 hf5 hDD
    go_wp2_with fail
    go_ret
    refine ⟨rfl, _, HF.out.1, ?_, ?_⟩
    · rcases HAT.out with h | ⟨x, h, h'⟩
      · exact .inl h
      · exact .inr ⟨x, h, by omega⟩
    · exact (St.of_below HB.out).trans HF.out.2 fun _ _ q => q
end Go.Proofs.YtdpoojopipcffaaDoor
