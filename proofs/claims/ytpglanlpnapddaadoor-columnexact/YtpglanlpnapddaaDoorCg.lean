/- Push. -/
import Derived.Test.YtpglanlpnapddaaDoorCf
import Derived.Deep.RegionLaw
import Derived.Deep.RegionHeldLaw
import Derived.Deep.AppendLies
namespace Go.Proofs.YtpglanlpnapddaaDoor
open Go.RowKit Go.Shelf Go.Maps
theorem check_bad (Ad : Nat → Addr) {B : Nat} {W : World} {rb mb : Nat} {sv : Value} {s : CS} (h : Cl B W rb mb sv s) (hE : Env3 W Ad) (cm : Int) (p : Pt) (hc : cm ≠ s.comp ∨ p.fitB s.w = false) :
    Calls Tryd.prog 30 #[.pointer (some ⟨rb, 0, none⟩), p.val cm] W fun e W' => ∃ t q, e = .returned (.iface t q) ∧ Err Ad W' (.iface t q) 1 1 ∧ Below W.heap.size W W' := by
  by_cases e : cm = s.comp
  · subst e
    exact check_vals Ad h hE p (hc.elim (fun h => absurd rfl h) id)
  · exact check_comp Ad h hE cm p e
set_option maxHeartbeats 800000 in
set_option maxRecDepth 100000 in
theorem push_nil (Ad : Nat → Addr) (W : World) (hE : Env3 W Ad) (cm : Int) (p : Pt) :
    Calls Tryd.prog 11 #[.pointer none, p.val cm] W fun e W' => ∃ t q, e = .returned (.tuple #[.int .i64 0, .iface t q]) ∧ Err Ad W' (.iface t q) 2 1 ∧ Below W.heap.size W W' := by
  have BA : Hid (Below W.heap.size W (W.alloc (.cells (p.arr cm) 34))) := bAl _ _
  have e2 := hE.c2
  have hl := World.block_lt_of_cell? W _ e2
  have hn := World.new_ne W _ e2
  have AC := hid (fun s => at_err Ad s _ 2 0 (W.alloc (.cells (p.arr cm) 34)) (err_leaf Ad _ 2 (by decide)))
  clear hE
  unfold Pt.val
  unfold Pt.arr at AC
  go_enter Tryd.func11, Tryd.ntmps11
  go_wp2_with fail
  refine (AC.out _).mono ?_
  rintro e w1 ⟨t, q, rfl, hv, hb⟩
  have HV := hid hv
  have HB := hid (BA.out.trans (hb.mono BA.out.size))
  clear hv hb e2 hl hn AC
  go_wp2_with fail
  go_ret2
  exact ⟨t, q, rfl, HV.out, HB.out⟩
set_option maxHeartbeats 800000 in
set_option maxRecDepth 100000 in
theorem push_bad (Ad : Nat → Addr) {B : Nat} {W : World} {rb mb : Nat} {sv : Value} {s : CS} (h : Cl B W rb mb sv s) (hE : Env3 W Ad) (cm : Int) (p : Pt) (hc : cm ≠ s.comp ∨ p.fitB s.w = false) :
    Calls Tryd.prog 11 #[.pointer (some ⟨rb, 0, none⟩), p.val cm] W fun e W' => ∃ t q, e = .returned (.tuple #[.int .i64 0, .iface t q]) ∧ Err Ad W' (.iface t q) 1 2 ∧ Below W.heap.size W W' := by
  have BA : Hid (Below W.heap.size W (W.alloc (.cells (p.arr cm) 34))) := bAl _ _
  have CK := hid (check_bad Ad (h.later BA.out) (hE.later BA.out) cm p hc)
  have AC := hid (fun s v w h => at_err Ad s v 1 1 w h)
  clear hE h hc
  unfold Pt.val at CK ⊢
  unfold Pt.arr at CK BA
  go_enter Tryd.func11, Tryd.ntmps11
  go_wp2_with fail
  refine CK.out.mono ?_
  rintro e w1 ⟨t, q, rfl, hv, hb⟩
  have HV := hid hv
  have HB := hid (BA.out.trans (hb.mono BA.out.size))
  clear hv hb CK
  go_wp2_with fail
  refine (AC.out _ _ _ HV.out).mono ?_
  rintro e w2 ⟨t2, q2, rfl, hv2, hb2⟩
  have HV2 := hid hv2
  have HB2 := hid (HB.out.trans (hb2.mono HB.out.size))
  clear hv2 hb2 AC
  go_wp2_with fail
  go_ret2
  exact ⟨t2, q2, rfl, HV2.out, HB2.out⟩
theorem row_src {W : World} {b : Nat} {cm : Int} {p : Pt} {e : TypeId} (h : W.heap[b]? = some (.cells (p.arr cm) e (0, 0))) (w : Nat) : ∀ (j : Nat) (u : Value), (p.row w)[j]? = some u → W.cell? ((⟨b, 1, none⟩ : Addr).add j) = some u := by
  intro j u hu
  rw [add_at2]
  refine cell_blk h ?_
  unfold Pt.row at hu
  rw [List.getElem?_map, List.getElem?_take] at hu
  split at hu
  · rw [show 1 + j = j + 1 by omega]
    match j, hu with
    | 0, hu => simpa [Pt.cs, Pt.arr, vI] using hu
    | 1, hu => simpa [Pt.cs, Pt.arr, vI] using hu
    | 2, hu => simpa [Pt.cs, Pt.arr, vI] using hu
    | 3, hu => simpa [Pt.cs, Pt.arr, vI] using hu
    | j + 4, hu => simp [Pt.cs] at hu
  · simp at hu
theorem infoInt3 : (Tryd.prog.info? 3).map (fun i => (i.zero, i.size, i.bytes)) = some (some (.int .i64 0), 1, 8) := by kernel_rfl
/-- What an append onto the cells leaves. -/
structure Grew (B : Nat) (sv : Value) (n : Nat) (l : List Value) (wc : World) (sv' : Value) (w2 : World) : Prop where
  own : w2.ownsRow B 3 1 sv' n l
  st : St (fun x => sv.ownBlock = some x) wc w2
  at' : sv'.ownBlock = sv.ownBlock ∨ ∃ x, sv'.ownBlock = some x ∧ wc.heap.size ≤ x
theorem step_cells {ops : Array Oper} {o : Oper} {a : Act} {K : Act → World → Prop} {Q : Exit → Act → World → Prop} {E : Prop} (hgd : o.guard = none) (s x : Operand)
    (ho : o.op = .call { callee := .builtin .append, args := #[s, x], argTypes := #[55, 55] }) {B b : Nat} {wc : World} {sv : Value} {n m c : Nat} {l news : List Value} (hown : wc.ownsRow B 3 1 sv n l) (hB : B ≤ wc.heap.size)
    (hl : news.length = m) (hm : 0 < m) (hsm : n + m ≤ 5000) (hsrc : ∀ (j : Nat) u, news[j]? = some u → wc.cell? ((⟨b, 1, none⟩ : Addr).add j) = some u) (hone : ∀ u ∈ news, u.oneCell' = true)
    {rb : Nat} {cs : Array Value} (hbox : wc.heap[rb]? = some (.cells cs 68 (0, 0))) (hcs : cs[2]? = some sv) (hne : sv.ownBlock ≠ some rb)
    (hs : a.eval s = sv) (hx : a.eval x = .slice (some ⟨b, 1, none⟩) m c)
    (h : ∀ g' cap w2, Hid (Grew B sv (n + m) (l ++ news) wc (.slice (some ⟨g', 0, none⟩) (n + m) cap) w2) → w2.cell? ⟨rb, 2, none⟩ = some sv → w2.frozen? ⟨rb, 2, none⟩ = false → K (a.put o.dst (.slice (some ⟨g', 0, none⟩) (n + m) cap)) w2) :
    if Region.wanted o (yielded ops a.tmps) = true then Oper.wp Tryd.prog o a wc.drew K Q else E := by
  obtain ⟨i0, hi, hz0, hz1, hz2⟩ := info_parts infoInt3
  refine step_append_lies _ hgd s x 55 ho B 3 i0 (.int .i64 0) 1 8 Tryd.underlying55 hi hz0 hz1 hz2 rfl (by decide) sv n l hs (show wc.drew.ownsRow _ _ _ _ _ _ from hown) ⟨b, 1, none⟩ m c news hx (by omega) hsrc hone hm (by unfold maxLen; omega) (by omega) hB wc.heap.size rfl ?_
  intro g' cap w2 ow hg hat hlt
  have st' := St.of_grown (S := fun x => sv.ownBlock = some x) hg fun k e => e
  have st : St (fun x => sv.ownBlock = some x) wc w2 := ⟨st'.os, st'.tape, st'.output, st'.size, st'.block⟩
  have hbx := st.at hbox hne
  refine h g' cap w2 ⟨ow, st, ?_⟩ (cell_blk hbx hcs) (blk_free hbx 2)
  · rcases hat with h1 | h1
    · exact .inl (by rw [h1]; rfl)
    · exact .inr ⟨g', rfl, by omega⟩
/-- What Push leaves. -/
theorem Cl.pushed {B : Nat} {w1 w2 w4 : World} {rb mb : Nat} {sv sv' : Value} {s : CS} (h : Cl B w1 rb mb sv s) (p : Pt) (hf : p.fitB s.w = true) (ht : I64 p.t) (hsm : s.rows.length < 1000)
    (hg : Grew B sv (s.rows.length * s.w + s.w) (flat s.w s.rows ++ p.row s.w) w1 sv' w2) (hs : St (fun x => x = mb) (w2.setCell ⟨rb, 2, none⟩ sv') w4)
    (D : DataW Unit) (hD : w1.ownsMap Tryd.prog 3 (plainElem Tryd.prog 3) mb s.rows.length D) (hH : Holds D s.rows) (hD4 : w4.ownsMap Tryd.prog 3 (plainElem Tryd.prog 3) mb (s.rows.length + 1) (D.put (.int .i64 (s.rows.length : Int)) (.lit (.int .i64 p.t)))) :
    Cl B w4 rb mb sv' ⟨s.comp, s.w, s.rows ++ [p]⟩ ∧ St (Ft rb mb sv) w1 w4 := by
  have l1 := (h.lt rb (.inl rfl)).2
  have lm := (h.lt mb (.inr (.inl rfl))).2
  have hnb : ∀ x, sv'.ownBlock = some x → x ≠ rb ∧ x ≠ mb := fun x hx => by
    rcases hg.at' with h1 | ⟨y, h1, h2⟩
    · exact h.ne_f x (h1 ▸ hx)
    · rw [h1] at hx; simp at hx; omega
  have b2 := hg.st.at h.box (fun e => (h.ne_f rb e).1 rfl)
  have b3 := heap_setCell_same w2 rb 2 _ 68 sv' b2
  have b4 := hs.at b3 h.ne_rm
  refine ⟨⟨b4, ?_, ⟨_, ?_, hH.snoc (hD.tidy keyed3) p (I64_mid (by omega) (by omega))⟩, ⟨h.ok.w0, h.ok.w4, ?_⟩, ?_, h.low⟩, ?_⟩
  · have e : (s.rows ++ [p]).length * s.w = s.rows.length * s.w + s.w := by rw [List.length_append, List.length_singleton, Nat.succ_mul]
    show World.ownsRow _ _ _ _ _ ((s.rows ++ [p]).length * s.w) (flat s.w (s.rows ++ [p]))
    rw [e, flat_snoc]
    refine own_later hg.own fun x cur hx hb => ?_
    exact hs.at ((Below.heap_setCell _ _ _ _ (hnb x hx).1).trans hb) (hnb x hx).2
  · show World.ownsMap _ _ _ _ _ (s.rows ++ [p]).length _
    rw [List.length_append]; exact hD4
  · intro q hq
    rcases List.mem_append.1 hq with hq | hq
    · exact h.ok.fit q hq
    · simp at hq; subst hq; exact ⟨hf, ht⟩
  · show (s.rows ++ [p]).length ≤ 1000
    rw [List.length_append]; simp; omega
  · have s1 : St (Ft rb mb sv) w1 w2 := ⟨hg.st.os, hg.st.tape, hg.st.output, hg.st.size, fun x hx hn => hg.st.block x hx fun e => hn (.inr (.inr e))⟩
    exact (s1.trans (St.setCell (S := Ft rb mb sv) (p := ⟨rb, 2, none⟩) sv' (.inl rfl)) fun _ _ q => q).trans hs fun x _ q => .inr (.inl q)
set_option maxHeartbeats 1600000 in
set_option maxRecDepth 100000 in
theorem push_ok {B : Nat} {W : World} {rb mb : Nat} {sv : Value} {s : CS} (h : Cl B W rb mb sv s) (p : Pt) (hf : p.fitB s.w = true) (ht : I64 p.t) (hsm : s.rows.length < 1000) :
    Calls Tryd.prog 11 #[.pointer (some ⟨rb, 0, none⟩), p.val s.comp] W fun e W' => e = .returned (.tuple #[.int .i64 (s.rows.length : Int), .nilIface]) ∧ ∃ sv', Cl B W' rb mb sv' ⟨s.comp, s.w, s.rows ++ [p]⟩ ∧ (sv'.ownBlock = sv.ownBlock ∨ ∃ x, sv'.ownBlock = some x ∧ W.heap.size ≤ x) ∧ St (Ft rb mb sv) W W' := by
  have BA : Hid (Below W.heap.size W (W.alloc (.cells (p.arr s.comp) 34))) := bAl _ _
  have CK := hid (check_ok (h.later BA.out) p hf)
  have HC := hid (h.later BA.out)
  have HF := hid hf
  have HT := hid ht
  have HLT := hid (fun k hk => (h.lt k hk).2)
  obtain ⟨sa, sc, rfl⟩ := own_slice h.row
  have hw0 := h.ok.w0
  have hw4 := h.ok.w4
  have hwi : (s.w : Int) ≤ 4 := by omega
  have hnw : s.rows.length * s.w ≤ 4000 := by have := Nat.mul_le_mul (show s.rows.length ≤ 1000 by omega) hw4; omega
  clear h hf ht
  unfold Pt.val at CK ⊢
  have HW : Hid ((W.alloc (.cells (p.arr s.comp) 34)).heap[W.heap.size]? = some (.cells (p.arr s.comp) 34 (0, 0))) := heap_alloc_new W _
  have HWs : (W.alloc (.cells (p.arr s.comp) 34)).heap.size = W.heap.size + 1 := by simp
  unfold Pt.arr at CK BA HC HW HWs
  go_enter Tryd.func11, Tryd.ntmps11
  go_wp2_with fail
  refine CK.out.mono ?_
  rintro e w1 ⟨rfl, hb⟩
  have C1 := hid (HC.out.later hb)
  have B1 := hid (BA.out.trans (hb.mono BA.out.size))
  have P1 := hid (blk_seen hb (Nat.le_refl _) HW.out)
  have hlt1 : W.heap.size < w1.heap.size := by have := hb.size; omega
  have LN := hid (len_any C1.out)
  clear hb CK HC HW HWs
  go_wp2_with fail
  refine LN.out.mono ?_
  rintro e w2 ⟨rfl, rfl⟩
  have c1 := C1.out.c1
  have c2 := C1.out.c2
  have hne : (Value.slice sa (s.rows.length * s.w) sc).ownBlock ≠ some rb := fun e => (C1.out.ne_f rb e).1 rfl
  have SRC := hid (row_src P1.out s.w)
  have RL := hid (p.row_len hw4)
  have hBw : B ≤ w2.heap.size := C1.out.base
  have hp0 : 0 < s.w := hw0
  have h5 : s.rows.length * s.w + s.w ≤ 5000 := by omega
  clear LN
  go_wp2_with fail
  go_region_law (refine step_cells rfl _ _ rfl C1.out.row hBw RL.out hp0 h5 SRC.out (row_one _ _) C1.out.box rfl hne rfl rfl ?_; intro g' cap w3 hgr hx3 hf3)
  all_goals
    obtain ⟨w4, hw4'⟩ : ∃ w4, w4 = w3.setCell ⟨rb, 2, none⟩ (.slice (some ⟨g', 0, none⟩) (s.rows.length * s.w + s.w) cap) := ⟨_, rfl⟩
    rw [← hw4']
    have HW4 := hid hw4'
    obtain ⟨D, hD, hH⟩ := C1.out.map
    have nsf : ∀ k, (Value.slice sa (s.rows.length * s.w) sc).ownBlock = some k → k < W.heap.size := fun k hk => HLT.out k (.inr (.inr hk))
    have D3 : w3.ownsMap Tryd.prog 3 (plainElem Tryd.prog 3) mb s.rows.length D := by
      have hlt := hD.lt
      obtain ⟨es, cl, hb, q⟩ := hD
      exact ⟨es, cl, (hgr.out.st.block mb hlt (fun e => (C1.out.ne_f mb e).2 rfl)).trans hb, q⟩
    have D4 : w4.ownsMap Tryd.prog 3 (plainElem Tryd.prog 3) mb s.rows.length D := by rw [hw4']; exact D3.setCell (fun e => C1.out.ne_rm e.symm) _
    obtain ⟨w6, hmu, D6, ht6⟩ := D4.drew.store keyed3 Tryd.underlying66 (by unfold maxLen; omega) (key_int (s.rows.length : Int) (I64_mid (by omega) (by omega))) (plainElem_int Tryd.underlying3 HT.out)
    have p3 := hgr.out.st.at P1.out (fun e => by have := nsf _ e; omega)
    have hrbW : rb < W.heap.size := HLT.out rb (.inl rfl)
    have hmbW : mb < W.heap.size := HLT.out mb (.inr (.inl rfl))
    have p4 : w4.heap[W.heap.size]? = some (.cells #[.int .i64 s.comp, .int .i64 p.a, .int .i64 p.b, .int .i64 p.c, .int .i64 p.d, .int .i64 p.t] 34 (0, 0)) := by
      rw [hw4', Below.heap_setCell _ _ _ _ (show W.heap.size ≠ rb by omega)]; exact p3
    have x4 := heap_setCell_same w3 rb 2 _ 68 (.slice (some ⟨g', 0, none⟩) (s.rows.length * s.w + s.w) cap) (hgr.out.st.at C1.out.box hne)
    rw [← hw4'] at x4
    have g6 : ∀ k, k < w4.heap.size → k ≠ mb → w6.heap[k]? = w4.heap[k]? := fun k hk hne => ht6.grown.block k (by simpa using hk) (by simpa using hne)
    have p6 := (g6 _ (Array.getElem?_eq_some_iff.1 p4).1 (by omega)).trans p4
    have x6 := (g6 _ (Array.getElem?_eq_some_iff.1 x4).1 C1.out.ne_rm).trans x4
    have K4 : Hid (w4.drew.cell? ⟨rb, 3, none⟩ = some (.map (some mb)) ∧ w4.drew.cell? ⟨W.heap.size, 5, none⟩ = some (.int .i64 p.t)) := ⟨cell_blk (W := w4) x4 rfl, cell_blk (W := w4) p4 rfl⟩
    have K6 : Hid (w6.cell? ⟨rb, 3, none⟩ = some (.map (some mb)) ∧ w6.cell? ⟨W.heap.size, 5, none⟩ = some (.int .i64 p.t)) := ⟨cell_blk x6 rfl, cell_blk p6 rfl⟩
    have s46 : St (fun x => x = mb) w4 w6 := by
      have s' := St.of_grown (S := fun x => x = mb) ht6.grown fun k e => by simpa using e.symm
      exact ⟨s'.os, s'.tape, s'.output, s'.size, s'.block⟩
    have FN := C1.out.pushed p HF.out HT.out hsm hgr.out (w4 := w6) (by rw [← hw4']; exact s46) D hD hH D6
    have HFN := hid FN
    have HAT := hid hgr.out.at'
    clear FN s46 g6 p6 x6 x4 p4 p3 D6 D4 D3 ht6 hD hH hw4' hgr hx3 hf3 c1 c2 nsf
    go_wp2_with fail
    go_region_held3 (fun W' => W'.cell? ⟨rb, 3, none⟩ = some (.map (some mb)) ∧ W'.cell? ⟨W.heap.size, 5, none⟩ = some (.int .i64 p.t)) (first | exact K4.out | exact K6.out) (fail)
    clear hmu K4 K6
    go_wp2_with fail
    go_ret2
    refine ⟨rfl, _, HFN.out.1, ?_, ?_⟩
    · rcases HAT.out with h | ⟨x, h, h'⟩
      · exact .inl h
      · exact .inr ⟨x, h, by omega⟩
    · exact (St.of_below B1.out).trans HFN.out.2 fun _ _ q => q
end Go.Proofs.YtpglanlpnapddaaDoor
