/- The sentinels that an atlas tells; the node of a set. -/
import Derived.Test.YtmiaepjlifceeaaDoorAd
import Derived.Deep.DeepCutAuto
import Derived.Deep.CutRange
import Derived.Deep.LoopGhost
import Derived.Deep.CutBlock
namespace Go.Proofs.YtmiaepjlifceeaaDoor
open Go.RowKit Go.Shelf Go.Maps
/-- The sentinels that an atlas tells. -/
def three : List Nat := [1, 2, 7]
structure Env3 (w : World) (Ad : Nat → Addr) : Prop where
  cell : ∀ k ∈ three, w.cell? ⟨gv k, 0, none⟩ = some (.iface 104 (.pointer (some (Ad k))))
  sen : ∀ k ∈ three, SenK w (Ad k)
  inj : ∀ i ∈ three, ∀ j ∈ three, Ad i = Ad j → i = j
theorem Env3.later {w w' : World} {Ad : Nat → Addr} (h : Env3 w Ad) (hb : Below w.heap.size w w') : Env3 w' Ad :=
  ⟨fun k hk => seen hb (Nat.le_refl _) (h.cell k hk), fun k hk => (h.sen k hk).below hb (h.sen k hk).lt, h.inj⟩
theorem Env3.c1 {w : World} {Ad : Nat → Addr} (h : Env3 w Ad) : w.cell? ⟨0, 0, none⟩ = some (.iface 104 (.pointer (some (Ad 1)))) := h.cell 1 (by decide)
theorem Env3.c2 {w : World} {Ad : Nat → Addr} (h : Env3 w Ad) : w.cell? ⟨1, 0, none⟩ = some (.iface 104 (.pointer (some (Ad 2)))) := h.cell 2 (by decide)
theorem Env3.c7 {w : World} {Ad : Nat → Addr} (h : Env3 w Ad) : w.cell? ⟨2, 0, none⟩ = some (.iface 104 (.pointer (some (Ad 7)))) := h.cell 7 (by decide)
theorem Env.three {w : World} {Ad : Nat → Addr} (h : Env w Ad) : Env3 w Ad := by
  have R : ∀ k ∈ YtmiaepjlifceeaaDoor.three, 1 ≤ k ∧ k ≤ 18 := by decide
  exact ⟨fun k hk => h.cell k (R k hk).1 (R k hk).2, fun k hk => h.sen k (R k hk).1 (R k hk).2, fun i hi j hj => h.inj i j (R i hi).1 (R i hi).2 (R j hj).1 (R j hj).2⟩
/-- A sentinel inside Blames. -/
def Err (Ad : Nat → Addr) (W : World) (v : Value) (k d : Nat) : Prop := ∃ ws, Chn Ad W.heap.size W d v (ws, k)
theorem Err.later {Ad : Nat → Addr} {W W' : World} {v : Value} {k d : Nat} (h : Err Ad W v k d) (hb : Below W.heap.size W W') : Err Ad W' v k d := by
  obtain ⟨ws, h⟩ := h; exact ⟨ws, h.move hb hb.size⟩
theorem Err.shape {Ad : Nat → Addr} {W : World} {v : Value} {k d : Nat} (h : Err Ad W v k d) : ∃ t q, v = .iface t q := by
  obtain ⟨ws, h⟩ := h; obtain ⟨t, q, rfl, _⟩ := h.1.shape; exact ⟨t, q, rfl⟩
theorem err_leaf (Ad : Nat → Addr) (W : World) (k : Nat) (hk : 1 ≤ k ∧ k ≤ 18) : Err Ad W (.iface 104 (.pointer (some (Ad k)))) k 0 := ⟨[], rfl, hk.1, hk.2, Nat.le_refl _⟩
theorem at_err (Ad : Nat → Addr) (s : ByteArray) (v : Value) (k d : Nat) (w : World) (h : Err Ad w v k d) :
    Calls Tryd.prog 26 #[.string s, v] w fun e w' => ∃ t q, e = .returned (.iface t q) ∧ Err Ad w' (.iface t q) k (d + 1) ∧ Below w.heap.size w w' := by
  obtain ⟨ws, h⟩ := h
  refine (at_chain Ad s d v (ws, k) w h).mono ?_
  rintro e w' ⟨v', rfl, hc, hb⟩
  obtain ⟨t, q, rfl, _⟩ := hc.1.shape
  exact ⟨t, q, rfl, ⟨_, hc⟩, hb⟩
/-- What an append onto the sets leaves. -/
structure Grew (B : Nat) (sv : Value) (n : Nat) (l : List Value) (wc : World) (sv' : Value) (w2 : World) : Prop where
  own : w2.ownsRow B 33 1 sv' n l
  st : St (fun x => sv.ownBlock = some x) wc w2
  at' : sv'.ownBlock = sv.ownBlock ∨ ∃ x, sv'.ownBlock = some x ∧ wc.heap.size ≤ x
theorem wpList_mask {ops : Array Oper} {rest : List Oper} {o : Oper} {a : Act} {Q : Exit → Act → World → Prop} (hgd : o.guard = none) (s x : Operand)
    (ho : o.op = .call { callee := .builtin .append, args := #[s, x], argTypes := #[51, 51] }) {B rb : Nat} {wc : World} {fv : Value} {f : List Nat} {k : Nat} (hown : wc.ownsRow B 33 1 fv f.length (f.map gM)) (hl : f.length ≤ 65536) (hB : B ≤ wc.heap.size)
    {cs : Array Value} (hbox : wc.heap[rb]? = some (.cells cs 66 (0, 0))) (hcs : cs[1]? = some fv) (hne : fv.ownBlock ≠ some rb)
    (hs : a.eval s = fv) (hx : a.eval x = .slice (some ⟨wc.heap.size, 0, none⟩) 1 1)
    (h : ∀ g' cap w2, Hid (Grew B fv (f.length + 1) ((f ++ [k]).map gM) wc (.slice (some ⟨g', 0, none⟩) (f.length + 1) cap) w2) → w2.cell? ⟨rb, 1, none⟩ = some fv → w2.frozen? ⟨rb, 1, none⟩ = false → wpList Tryd.prog ops Q rest (a.put o.dst (.slice (some ⟨g', 0, none⟩) (f.length + 1) cap)) w2) :
    wpList Tryd.prog ops Q (o :: rest) a (wc.alloc (.cells #[.int .u32 (k : Int)] 33)) := by
  obtain ⟨i0, hi, hz0, hz1, hz2⟩ := info_parts infoInt33
  have hb : Below wc.heap.size wc (wc.alloc (.cells #[.int .u32 (k : Int)] 33)) := bAl _ _
  have ho2 : (wc.alloc (.cells #[.int .u32 (k : Int)] 33)).ownsRow B 33 1 fv f.length (f.map gM) := hown.alloc _
  refine wpList_append_lies _ hgd s x 51 ho B 33 i0 (.int .u32 0) 1 4 Tryd.underlying51 hi hz0 hz1 hz2 rfl (by decide) fv f.length (f.map gM) hs ho2 ⟨wc.heap.size, 0, none⟩ 1 1 [gM k] hx rfl (fun j u hu => by
    rw [add_at]
    match j, hu with
    | 0, hu =>
      simp at hu
      subst hu
      exact new_cell wc _ 33
    | j + 1, hu => simp at hu) (by intro u hu; simp at hu; subst hu; rfl) (by decide) (by unfold maxLen; omega) (by omega) (by simp; omega) (wc.heap.size + 1) (by simp) ?_
  intro g' cap w2 ow hg hat hlt
  have st : St (fun x => fv.ownBlock = some x) wc w2 := (St.of_below hb).trans (St.of_grown (S := fun x => fv.ownBlock = some x) hg fun k e => e) fun _ _ q => q
  have hbx : w2.heap[rb]? = some (.cells cs 66 (0, 0)) := (st.block rb (Array.getElem?_eq_some_iff.1 hbox).1 hne).trans hbox
  refine h g' cap w2 ⟨?_, st, ?_⟩ (cell_blk hbx hcs) (blk_free hbx 1)
  · rw [List.map_append]
    exact ow
  · rcases hat with h1 | h1
    · exact .inl (by rw [h1]; rfl)
    · exact .inr ⟨g', rfl, by omega⟩
/-- What a new node leaves. -/
theorem Cl.made {B : Nat} {w1 w2 w4 : World} {rb mb : Nat} {sv sv' : Value} {s : AS} (h : Cl B w1 rb mb sv s) {m : Nat} (hm : m ∉ s.l) (hlt : m < 2 ^ s.n)
    (hg : Grew B sv (s.l.length + 1) ((s.l ++ [m]).map gM) w1 sv' w2) (hs : St (fun x => x = mb) (w2.setCell ⟨rb, 1, none⟩ sv') w4)
    (D : DataW Unit) (hD : w1.ownsMap Tryd.prog 33 (plainElem Tryd.prog 3) mb s.l.length D) (hH : Holds D s.l) (hD4 : w4.ownsMap Tryd.prog 33 (plainElem Tryd.prog 3) mb (s.l.length + 1) (D.put (.int .u32 (m : Int)) (.lit (.int .i64 (s.l.length : Int))))) :
    Cl B w4 rb mb sv' (s.put m) ∧ St (Ft rb mb sv) w1 w4 := by
  have l1 := (h.lt rb (.inl rfl)).2
  have lm := (h.lt mb (.inr (.inl rfl))).2
  have hnb : ∀ x, sv'.ownBlock = some x → x ≠ rb ∧ x ≠ mb := fun x hx => by
    rcases hg.at' with h1 | ⟨y, h1, h2⟩
    · exact h.ne_f x (h1 ▸ hx)
    · rw [h1] at hx; simp at hx; omega
  have b2 := hg.st.at h.box (fun e => (h.ne_f rb e).1 rfl)
  have b3 := heap_setCell_same w2 rb 1 _ 66 sv' b2
  have b4 := hs.at b3 h.ne_rm
  have e1 : (s.put m).l = s.l ++ [m] := by unfold AS.put add; simp only; rw [if_neg hm]
  have e2 : (s.put m).l.length = s.l.length + 1 := by rw [e1]; simp
  have h16 := pow_le h.ok.n16
  refine ⟨⟨b4, ?_, ⟨_, by rw [e2]; exact hD4, by rw [e1]; exact hH.snoc (hD.tidy keyed33) hm (by omega)⟩, h.ok.put hlt, h.low⟩, ?_⟩
  · rw [e2, e1]
    refine own_later hg.own fun x cur hx hb => ?_
    exact hs.at ((Below.heap_setCell _ _ _ _ (hnb x hx).1).trans hb) (hnb x hx).2
  · have s1 : St (Ft rb mb sv) w1 w2 := ⟨hg.st.os, hg.st.tape, hg.st.output, hg.st.size, fun x hx hn => hg.st.block x hx fun e => hn (.inr (.inr e))⟩
    exact (s1.trans (St.setCell (S := Ft rb mb sv) (p := ⟨rb, 1, none⟩) sv' (.inl rfl)) fun _ _ q => q).trans hs fun x _ q => .inr (.inl q)
set_option maxHeartbeats 800000 in
set_option maxRecDepth 100000 in
theorem node_in {B : Nat} {W : World} {rb mb : Nat} {sv : Value} {s : AS} (h : Cl B W rb mb sv s) (m : Nat) (hm : m ∈ s.l) :
    Calls Tryd.prog 27 #[.pointer (some ⟨rb, 0, none⟩), .int .u32 (m : Int)] W fun e W' => e = .returned (.int .i64 (s.l.idxOf m : Int)) ∧ Below W.heap.size W W' := by
  have c2 := h.c2
  obtain ⟨D, hD, hH⟩ := h.map
  have hl := look_two hD hH m (by have := h.ok.u16 hm; omega)
  rw [if_pos hm, decide_eq_true hm] at hl
  clear hD hH h hm
  go_enter Tryd.func27, Tryd.ntmps27
  go_wp2_with fail
  go_ret
  exact ⟨rfl, Below.refl _ _⟩
set_option maxHeartbeats 1600000 in
set_option maxRecDepth 100000 in
theorem node_out {B : Nat} {W : World} {rb mb : Nat} {sv : Value} {s : AS} (h : Cl B W rb mb sv s) (m : Nat) (hm : m ∉ s.l) (hlt : m < 2 ^ s.n) :
    Calls Tryd.prog 27 #[.pointer (some ⟨rb, 0, none⟩), .int .u32 (m : Int)] W fun e W' => e = .returned (.int .i64 (s.l.length : Int)) ∧ ∃ sv', Cl B W' rb mb sv' (s.put m) ∧ (sv'.ownBlock = sv.ownBlock ∨ ∃ x, sv'.ownBlock = some x ∧ W.heap.size ≤ x) ∧ St (Ft rb mb sv) W W' := by
  have c2 := h.c2
  have c1 := h.c1
  obtain ⟨D, hD, hH⟩ := h.map
  have h16 := pow_le h.ok.n16
  have hm32 : m < 4294967296 := by omega
  have hl := look_two hD hH m hm32
  rw [if_neg hm, decide_eq_false hm] at hl
  obtain ⟨sa, sc, rfl⟩ := own_slice h.row
  have H := hid h
  have HM := hid hm
  have HLT := hid hlt
  have HD := hid hD
  have HH := hid hH
  have H32 := hid hm32
  have hsm := h.ok.small
  have hfl : s.l.length ≤ 65536 := hsm
  have hne : (Value.slice sa s.l.length sc).ownBlock ≠ some rb := fun e => (H.out.ne_f rb e).1 rfl
  have hBw : B ≤ W.heap.size := H.out.base
  have hrl : rb < W.heap.size := World.block_lt_of_cell? W _ c1
  have hrn : ¬ (rb = W.heap.size) := by omega
  clear h hm hlt hD hH h16 hm32
  go_enter Tryd.func27, Tryd.ntmps27
  go_upto_region 5 with fail
  go_upto_region 6 with (at_builtin; refine wpList_mask rfl _ _ rfl H.out.row hfl hBw H.out.box rfl hne rfl rfl ?_; intro g' cap w3 hgr hx3 hf3)
  all_goals
    obtain ⟨w4, hw4'⟩ : ∃ w4, w4 = w3.setCell ⟨rb, 1, none⟩ (.slice (some ⟨g', 0, none⟩) (s.l.length + 1) cap) := ⟨_, rfl⟩
    rw [← hw4']
    have D3 : w3.ownsMap Tryd.prog 33 (plainElem Tryd.prog 3) mb s.l.length D := by
      have hlt := HD.out.lt
      obtain ⟨es, cl, hb, q⟩ := HD.out
      exact ⟨es, cl, (hgr.out.st.block mb hlt (fun e => (H.out.ne_f mb e).2 rfl)).trans hb, q⟩
    have D4 : w4.ownsMap Tryd.prog 33 (plainElem Tryd.prog 3) mb s.l.length D := by rw [hw4']; exact D3.setCell (fun e => H.out.ne_rm e.symm) _
    obtain ⟨w6, hmu, D6, ht6⟩ := D4.store keyed33 Tryd.underlying64 (by unfold maxLen; omega) (key_u32 m H32.out) (plainElem_int Tryd.underlying3 (I64_mid (n := (s.l.length : Int)) (by omega) (by omega)))
    have x4 := heap_setCell_same w3 rb 1 _ 66 (.slice (some ⟨g', 0, none⟩) (s.l.length + 1) cap) (hgr.out.st.at H.out.box hne)
    rw [← hw4'] at x4
    have g6 : ∀ k, k < w4.heap.size → k ≠ mb → w6.heap[k]? = w4.heap[k]? := fun k hk hne => ht6.grown.block k (by simpa using hk) (by simpa using hne)
    have k4 : w4.cell? ⟨rb, 2, none⟩ = some (.map (some mb)) := cell_blk (W := w4) x4 rfl
    have s46 : St (fun x => x = mb) w4 w6 := by
      have s' := St.of_grown (S := fun x => x = mb) ht6.grown fun k e => by simpa using e.symm
      exact ⟨s'.os, s'.tape, s'.output, s'.size, s'.block⟩
    have FN := H.out.made HM.out HLT.out hgr.out (w4 := w6) (by rw [← hw4']; exact s46) D HD.out HH.out D6
    have HFN := hid FN
    have HAT := hid hgr.out.at'
    clear FN s46 g6 x4 D6 D4 D3 ht6 hw4' hgr hx3 hf3 c1 c2 hl
    go_wp2_with fail
    go_ret
    refine ⟨rfl, _, HFN.out.1, ?_, HFN.out.2⟩
    rcases HAT.out with h | ⟨x, h, h'⟩
    · exact .inl h
    · exact .inr ⟨x, h, h'⟩
end Go.Proofs.YtmiaepjlifceeaaDoor
