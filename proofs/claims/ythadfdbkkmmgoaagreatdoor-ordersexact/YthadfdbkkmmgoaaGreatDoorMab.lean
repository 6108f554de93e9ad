/- A part of the proof. -/
import Derived.Deep.DeepCutAuto
import Derived.Deep.CutRange
import Derived.Deep.LoopGhost
import Derived.Deep.CutBlock
import Derived.DeepKeys4
import Derived.Laws.MakeOwn
import Derived.ProofKit
import Derived.OpenShut
import Derived.Deep.Grids
import Derived.Laws.StructEq
import Derived.Test.YthadfdbkkmmgoaaGreatDoorMaa
set_option maxHeartbeats 1600000
namespace Go.Proofs.YthadfdbkkmmgoaaGreatDoor
namespace At
open Go.RowKit Go.Shelf Go.Maps
theorem zgi : (Tryz.prog.info? 3).map (fun i => (i.zero, i.size, i.bytes)) = some (some (.int .i64 0), 1, 8) := by kernel_rfl
theorem zzr : (Tryz.prog.info? 46).map (fun i => (i.zero, i.size, i.bytes)) = some (some (.int .u32 0), 1, 4) := by kernel_rfl
def Ints (B : Nat) (W : World) (v : Value) (l : List Nat) : Prop := W.ownsRow B 3 1 v l.length (l.map gI)
theorem Ints.later {B : Nat} {W W' : World} {v : Value} {l : List Nat} (h : Ints B W v l) (hb : Below W.heap.size W W') : Ints B W' v l := zas h fun _ _ _ hb' => zab hb (Nat.le_refl _) hb'
theorem Ints.slice {B : Nat} {W : World} {v : Value} {l : List Nat} (h : Ints B W v l) : ∃ a c, v = .slice a l.length c := zaf h
theorem Ints.lt {B : Nat} {W : World} {v : Value} {l : List Nat} (h : Ints B W v l) (k : Nat) (hk : v.ownBlock = Option.some k) : B <= k /\ k < W.heap.size := World.ownsRow.lt h k hk
theorem Ints.some {B : Nat} {W : World} {a : Option Addr} {c : Nat} {l : List Nat} (h : Ints B W (.slice a l.length c) l) (h0 : 0 < l.length) : ∃ g, a = Option.some ⟨g, 0, none⟩ /\ B <= g /\ g < W.heap.size := zdo h h0
theorem Ints.cell {B : Nat} {W : World} {g c : Nat} {l : List Nat} (h : Ints B W (.slice (Option.some ⟨g, 0, none⟩) l.length c) l) {j k : Nat} (hj : l[j]? = Option.some k) : W.cell? ⟨g, j, none⟩ = Option.some (.int .i64 (k : Int)) := by
 have hlt := (List.getElem?_eq_some_iff.1 hj).1
 rw [World.ownsRow.cellAt h j (by omega), List.getElem?_map, hj]
 rfl
theorem Ints.lower {B B' : Nat} {W : World} {v : Value} {l : List Nat} (h : Ints B W v l) (hB : B' <= B) : Ints B' W v l := by
 refine ⟨h.1, ?_⟩
 rcases h.2 with q | ⟨g, cap, cur, q1, q2, q3⟩
 ·exact .inl q
 exact .inr ⟨g, cap, cur, q1, by omega, q3⟩
theorem zth {ops : Array Oper} {rest : List Oper} {o : Oper} {a : Act} {Q : Exit -> Act -> World -> Prop} (hgd : o.guard = none) (s x : Operand)
  (ho : o.op = .call { callee := .builtin .append, args := #[s, x], argTypes := #[68, 68] }) {B : Nat} {wc : World} {v : Value} {l : List Nat} {k : Nat} (hown : Ints B wc v l) (hl : l.length <= 100000) (hB : B <= wc.heap.size)
  (hs : a.eval s = v) (hx : a.eval x = .slice (some ⟨wc.heap.size, 0, none⟩) 1 1)
  (h : ∀ v' w2, Hid (Ints B w2 v' (l ++ [k])) -> Hid (St (fun x => v.ownBlock = some x) wc w2) -> Hid (v'.ownBlock = v.ownBlock \/ ∃ x, v'.ownBlock = some x /\ wc.heap.size <= x) -> wpList Tryz.prog ops Q rest (a.put o.dst v') w2) :
  wpList Tryz.prog ops Q (o :: rest) a (wc.alloc (.cells #[.int .i64 (k : Int)] 3)) := by
 obtain ⟨i0, hi, hz0, hz1, hz2⟩ := info_parts zgi
 have hb : Below wc.heap.size wc (wc.alloc (.cells #[.int .i64 (k : Int)] 3)) := bAl _ _
 have ho2 : (wc.alloc (.cells #[.int .i64 (k : Int)] 3)).ownsRow B 3 1 v l.length (l.map gI) := World.ownsRow.alloc hown _
 refine wpList_append_lies _ hgd s x 68 ho B 3 i0 (.int .i64 0) 1 8 Tryz.underlying68 hi hz0 hz1 hz2 rfl (by decide) v l.length (l.map gI) hs ho2 ⟨wc.heap.size, 0, none⟩ 1 1 [gI k] hx rfl (fun j u hu => by
  rw [zbx]
  match j, hu with
  | 0, hu => simp at hu; subst hu; exact zbz wc _ 3
  | j + 1, hu => simp at hu) (by intro u hu; simp at hu; subst hu; rfl) (by decide) (by unfold maxLen; omega) (by omega) (by simp; omega) (wc.heap.size + 1) (by simp) ?_
 intro g' cap w2 ow hg hat hlt
 refine h _ w2 ?_ ((St.of_below hb).trans (St.zam (S := fun x => v.ownBlock = some x) hg fun k e => e) fun _ _ q => q) ?_
 ·show World.ownsRow _ _ _ _ _ _ _
  have e : (l ++ [k]).length = l.length + 1 := by simp
  rw [e, List.map_append]
  exact ow
 show _ \/ _
 rcases hat with h1 | h1
 ·exact .inl (by rw [h1]; rfl)
 exact .inr ⟨g', rfl, by omega⟩
def lst : Nat -> Nat -> List Nat
 | 0, _ => []
 | k + 1, m => if m.testBit k = true then lst k m ++ [k] else lst k m
theorem zfu (m : Nat) : ∀ k, (lst k m).length <= k
 | 0 => by simp [lst]
 | k + 1 => by
  have ih := zfu m k
  rw [lst]
  split <;> simp <;> omega
theorem zbc (m c : Nat) : ∀ k, c ∈ lst k m ↔ c < k /\ m.testBit c = true
 | 0 => by simp [lst]
 | k + 1 => by
  have ih := zbc m c k
  rw [lst]
  split
  ·rename_i h
   rw [List.mem_append, ih, List.mem_singleton]
   constructor
   ·rintro (⟨h1, h2⟩ | rfl)
    ·exact ⟨by omega, h2⟩
    exact ⟨by omega, h⟩
   rintro ⟨h1, h2⟩
   by_cases e : c = k
   ·exact .inr e
   exact .inl ⟨by omega, h2⟩
  rename_i h
  rw [ih]
  constructor
  ·rintro ⟨h1, h2⟩; exact ⟨by omega, h2⟩
  rintro ⟨h1, h2⟩
  refine ⟨?_, h2⟩
  by_cases e : c = k
  ·subst e; exact absurd h2 h
  omega
theorem zlf (m : Nat) (n : Nat) (h : m < 2 ^ n) : ∀ k, n <= k -> lst k m = lst n m
 | 0, hk => by rw [show n = 0 by omega]
 | k + 1, hk => by
  by_cases e : n = k + 1
  ·rw [e]
  rw [lst, if_neg (by rw [zfq h (show n <= k by omega)]; decide), zlf m n h k (by omega)]
set_option maxRecDepth 100000 in
theorem zdp (m : Nat) (h : m < 4294967296) (w : World) :
  Calls Tryz.prog 139 #[.int .u32 (m : Int)] w fun e w' => ∃ v, e = .returned v /\ Ints w.heap.size w' v (lst 32 m) /\ Below w.heap.size w w' := by
 have RH := hid (fun k hk w => zgb m k h hk w)
 clear h
 go_enter Tryz.func139, Tryz.ntmps139
 go_wp2_with fail
 go_loopw [3, 5] (fun v i wr => ∃ k : Nat, k <= 32 /\ i = .int .i64 (k : Int) /\ Hid (Ints w.heap.size wr v (lst k m)) /\ Hid (Below w.heap.size w wr)) (fun _ i _ => 32 - (intOf i).toNat)
 case atStart => exact ⟨0, Nat.zero_le _, rfl, World.ownsRow_nil _ _ _ _, Below.refl _ _⟩
 case round =>
  obtain ⟨k, hk, rfl, HL, HB⟩ := hrel
  have hyl := zfu m k
  by_cases hlt : k < 32
  ·have hki : (k : Int) < 32 := by omega
   have e2 := hid (show lst (k + 1) m = if m.testBit k = true then lst k m ++ [k] else lst k m from rfl)
   have HH := hid (fun w => RH.out k hlt w)
   obtain ⟨la, lc, rfl⟩ := Ints.slice HL.out
   have hw1 : w.heap.size <= wr.heap.size := HB.out.size
   have hul : (lst k m).length <= 100000 := by omega
   clear hyl
   go_wp2_with fail
   refine (HH.out _).mono ?_
   rintro e w1 ⟨rfl, rfl⟩
   generalize m.testBit k = tb at *
   cases tb with
   | true =>
    rw [if_pos rfl] at e2
    go_wp2_with (at_builtin; refine zth rfl _ _ rfl HL.out hul hw1 rfl rfl ?_; intro v' w2 ho hst hat)
    have b2 : Hid (Below w.heap.size w w2) := HB.out.trans (hst.out.below (fun x hx => (World.ownsRow.lt HL.out x hx).1) hw1)
    go_roundw
    case rel => exact ⟨k + 1, by omega, by go_num, by rw [e2.out]; exact ho.out, b2.out⟩
    case measure => simp [intOf]; omega
   | false =>
    rw [if_neg (by decide)] at e2
    go_wp2_with fail
    go_roundw
    case rel => exact ⟨k + 1, by omega, by go_num, by rw [e2.out]; exact HL.out, HB.out⟩
    case measure => simp [intOf]; omega
  have hki : ¬ ((k : Int) < 32) := by omega
  have e1 : Hid (k = 32) := by show k = _; omega
  go_wp2_with fail
  go_ret
  exact ⟨_, rfl, by rw [<- e1.out]; exact HL.out, HB.out⟩
def Err (Ad : Nat -> Addr) (W : World) (v : Value) (k d : Nat) : Prop := ∃ ws, Chn Ad W.heap.size W d v (ws, k)
theorem Err.later {Ad : Nat -> Addr} {W W' : World} {v : Value} {k d : Nat} (h : Err Ad W v k d) (hb : Below W.heap.size W W') : Err Ad W' v k d := by
 obtain ⟨ws, h⟩ := h; exact ⟨ws, h.move hb hb.size⟩
theorem zck (Ad : Nat -> Addr) (W : World) (k : Nat) (hk : 1 <= k /\ k <= 18) : Err Ad W (.iface 330 (.pointer (some (Ad k)))) k 0 := ⟨[], rfl, hk.1, hk.2, Nat.le_refl _⟩
theorem zep (Ad : Nat -> Addr) (s : ByteArray) (v : Value) (k d : Nat) (w : World) (h : Err Ad w v k d) :
  Calls Tryz.prog 38 #[.string s, v] w fun e w' => ∃ t q, e = .returned (.iface t q) /\ Err Ad w' (.iface t q) k (d + 1) /\ Below w.heap.size w w' := by
 obtain ⟨ws, h⟩ := h
 refine (zgt Ad s d v (ws, k) w h).mono ?_
 rintro e w' ⟨v', rfl, hc, hb⟩
 obtain ⟨t, q, rfl, _⟩ := hc.1.shape
 exact ⟨t, q, rfl, ⟨_, hc⟩, hb⟩
structure Grew (B : Nat) (sv : Value) (n : Nat) (l : List Value) (wc : World) (sv' : Value) (w2 : World) : Prop where
 own : w2.ownsRow B 46 1 sv' n l
 st : St (fun x => sv.ownBlock = some x) wc w2
 at' : sv'.ownBlock = sv.ownBlock \/ ∃ x, sv'.ownBlock = some x /\ wc.heap.size <= x
theorem zpo {ops : Array Oper} {rest : List Oper} {o : Oper} {a : Act} {Q : Exit -> Act -> World -> Prop} (hgd : o.guard = none) (s x : Operand)
  (ho : o.op = .call { callee := .builtin .append, args := #[s, x], argTypes := #[243, 243] }) {B rb : Nat} {wc : World} {fv : Value} {f : List Nat} {k : Nat} (hown : wc.ownsRow B 46 1 fv f.length (f.map gM)) (hl : f.length <= 65536) (hB : B <= wc.heap.size)
  {cs : Array Value} (hbox : wc.heap[rb]? = some (.cells cs 245 (0, 0))) (hcs : cs[1]? = some fv) (hne : fv.ownBlock ≠ some rb)
  (hs : a.eval s = fv) (hx : a.eval x = .slice (some ⟨wc.heap.size, 0, none⟩) 1 1)
  (h : ∀ g' cap w2, Hid (Grew B fv (f.length + 1) ((f ++ [k]).map gM) wc (.slice (some ⟨g', 0, none⟩) (f.length + 1) cap) w2) -> w2.cell? ⟨rb, 1, none⟩ = some fv -> w2.frozen? ⟨rb, 1, none⟩ = false -> wpList Tryz.prog ops Q rest (a.put o.dst (.slice (some ⟨g', 0, none⟩) (f.length + 1) cap)) w2) :
  wpList Tryz.prog ops Q (o :: rest) a (wc.alloc (.cells #[.int .u32 (k : Int)] 46)) := by
 obtain ⟨i0, hi, hz0, hz1, hz2⟩ := info_parts zzr
 have hb : Below wc.heap.size wc (wc.alloc (.cells #[.int .u32 (k : Int)] 46)) := bAl _ _
 have ho2 : (wc.alloc (.cells #[.int .u32 (k : Int)] 46)).ownsRow B 46 1 fv f.length (f.map gM) := hown.alloc _
 refine wpList_append_lies _ hgd s x 243 ho B 46 i0 (.int .u32 0) 1 4 Tryz.underlying243 hi hz0 hz1 hz2 rfl (by decide) fv f.length (f.map gM) hs ho2 ⟨wc.heap.size, 0, none⟩ 1 1 [gM k] hx rfl (fun j u hu => by
  rw [zbx]
  match j, hu with
  | 0, hu =>
   simp at hu
   subst hu
   exact zbz wc _ 46
  | j + 1, hu => simp at hu) (by intro u hu; simp at hu; subst hu; rfl) (by decide) (by unfold maxLen; omega) (by omega) (by simp; omega) (wc.heap.size + 1) (by simp) ?_
 intro g' cap w2 ow hg hat hlt
 have st : St (fun x => fv.ownBlock = some x) wc w2 := (St.of_below hb).trans (St.zam (S := fun x => fv.ownBlock = some x) hg fun k e => e) fun _ _ q => q
 have hbx : w2.heap[rb]? = some (.cells cs 245 (0, 0)) := (st.block rb (Array.getElem?_eq_some_iff.1 hbox).1 hne).trans hbox
 refine h g' cap w2 ⟨?_, st, ?_⟩ (zaa hbx hcs) (zac hbx 1)
 ·rw [List.map_append]
  exact ow
 rcases hat with h1 | h1
 ·exact .inl (by rw [h1]; rfl)
 exact .inr ⟨g', rfl, by omega⟩
theorem Cl.made {B : Nat} {w1 w2 w4 : World} {rb mb : Nat} {sv sv' : Value} {s : AS} (h : Cl B w1 rb mb sv s) {m : Nat} (hm : m ∉ s.l) (hlt : m < 2 ^ s.n)
  (hg : Grew B sv (s.l.length + 1) ((s.l ++ [m]).map gM) w1 sv' w2) (hs : St (fun x => x = mb) (w2.setCell ⟨rb, 1, none⟩ sv') w4)
  (D : DataW Unit) (hD : w1.ownsMap Tryz.prog 46 (plainElem Tryz.prog 3) mb s.l.length D) (hH : Holds D s.l) (hD4 : w4.ownsMap Tryz.prog 46 (plainElem Tryz.prog 3) mb (s.l.length + 1) (D.put (.int .u32 (m : Int)) (.lit (.int .i64 (s.l.length : Int))))) :
  Cl B w4 rb mb sv' (s.put m) /\ St (Ft rb mb sv) w1 w4 := by
 have l1 := (h.lt rb (.inl rfl)).2
 have lm := (h.lt mb (.inr (.inl rfl))).2
 have hnb : ∀ x, sv'.ownBlock = some x -> x ≠ rb /\ x ≠ mb := fun x hx => by
  rcases hg.at' with h1 | ⟨y, h1, h2⟩
  ·exact h.ne_f x (h1 ▸ hx)
  rw [h1] at hx; simp at hx; omega
 have b2 := hg.st.at h.box (fun e => (h.ne_f rb e).1 rfl)
 have b3 := heap_setCell_same w2 rb 1 _ 245 sv' b2
 have b4 := hs.at b3 h.zgh
 have e1 : (s.put m).l = s.l ++ [m] := by unfold AS.put add; simp only; rw [if_neg hm]
 have e2 : (s.put m).l.length = s.l.length + 1 := by rw [e1]; simp
 have h16 := zfn h.ok.n16
 refine ⟨⟨b4, ?_, ⟨_, by rw [e2]; exact hD4, by rw [e1]; exact hH.snoc (hD.tidy zpm) hm (by omega)⟩, h.ok.put hlt, h.low⟩, ?_⟩
 ·rw [e2, e1]
  refine zas hg.own fun x cur hx hb => ?_
  exact hs.at ((Below.heap_setCell _ _ _ _ (hnb x hx).1).trans hb) (hnb x hx).2
 have s1 : St (Ft rb mb sv) w1 w2 := ⟨hg.st.os, hg.st.tape, hg.st.output, hg.st.size, fun x hx hn => hg.st.block x hx fun e => hn (.inr (.inr e))⟩
 exact (s1.trans (St.setCell (S := Ft rb mb sv) (p := ⟨rb, 1, none⟩) sv' (.inl rfl)) fun _ _ q => q).trans hs fun x _ q => .inr (.inl q)
set_option maxRecDepth 100000 in
theorem z7p {B : Nat} {W : World} {rb mb : Nat} {sv : Value} {s : AS} (h : Cl B W rb mb sv s) (m : Nat) (hm : m ∈ s.l) :
  Calls Tryz.prog 134 #[.pointer (some ⟨rb, 0, none⟩), .int .u32 (m : Int)] W fun e W' => e = .returned (.int .i64 (s.l.idxOf m : Int)) /\ Below W.heap.size W W' := by
 have c2 := h.c2
 obtain ⟨D, hD, hH⟩ := h.map
 have hl := zie hD hH m (by have := h.ok.u16 hm; omega)
 rw [if_pos hm, decide_eq_true hm] at hl
 clear hD hH h hm
 go_enter Tryz.func134, Tryz.ntmps134
 go_wp2_with fail
 go_ret
 exact ⟨rfl, Below.refl _ _⟩
set_option maxRecDepth 100000 in
theorem z2z {B : Nat} {W : World} {rb mb : Nat} {sv : Value} {s : AS} (h : Cl B W rb mb sv s) (m : Nat) (hm : m ∉ s.l) (hlt : m < 2 ^ s.n) :
  Calls Tryz.prog 134 #[.pointer (some ⟨rb, 0, none⟩), .int .u32 (m : Int)] W fun e W' => e = .returned (.int .i64 (s.l.length : Int)) /\ ∃ sv', Cl B W' rb mb sv' (s.put m) /\ (sv'.ownBlock = sv.ownBlock \/ ∃ x, sv'.ownBlock = some x /\ W.heap.size <= x) /\ St (Ft rb mb sv) W W' := by
 have c2 := h.c2
 have c1 := h.c1
 obtain ⟨D, hD, hH⟩ := h.map
 have h16 := zfn h.ok.n16
 have hm32 : m < 4294967296 := by omega
 have hl := zie hD hH m hm32
 rw [if_neg hm, decide_eq_false hm] at hl
 obtain ⟨sa, sc, rfl⟩ := zaf h.row
 have H := hid h
 have HM := hid hm
 have HLT := hid hlt
 have HD := hid hD
 have HH := hid hH
 have H32 := hid hm32
 have hsm := h.ok.small
 have hfl : s.l.length <= 65536 := hsm
 have hne : (Value.slice sa s.l.length sc).ownBlock ≠ some rb := fun e => (H.out.ne_f rb e).1 rfl
 have hBw : B <= W.heap.size := H.out.base
 have hrl : rb < W.heap.size := World.block_lt_of_cell? W _ c1
 have hrn : ¬ (rb = W.heap.size) := by omega
 clear h hm hlt hD hH h16 hm32
 go_enter Tryz.func134, Tryz.ntmps134
 go_upto_region 5 with fail
 go_upto_region 6 with (at_builtin; refine zpo rfl _ _ rfl H.out.row hfl hBw H.out.box rfl hne rfl rfl ?_; intro g' cap w3 hgr hx3 hf3)
 all_goals
  obtain ⟨w4, hw4'⟩ : ∃ w4, w4 = w3.setCell ⟨rb, 1, none⟩ (.slice (some ⟨g', 0, none⟩) (s.l.length + 1) cap) := ⟨_, rfl⟩
  rw [<- hw4']
  have D3 : w3.ownsMap Tryz.prog 46 (plainElem Tryz.prog 3) mb s.l.length D := by
   have hlt := HD.out.lt
   obtain ⟨es, cl, hb, q⟩ := HD.out
   exact ⟨es, cl, (hgr.out.st.block mb hlt (fun e => (H.out.ne_f mb e).2 rfl)).trans hb, q⟩
  have D4 : w4.ownsMap Tryz.prog 46 (plainElem Tryz.prog 3) mb s.l.length D := by rw [hw4']; exact D3.setCell (fun e => H.out.zgh e.symm) _
  obtain ⟨w6, hmu, D6, ht6⟩ := D4.store zpm Tryz.underlying242 (by unfold maxLen; omega) (zwl m H32.out) (plainElem_int Tryz.underlying3 (zaj (n := (s.l.length : Int)) (by omega) (by omega)))
  have x4 := heap_setCell_same w3 rb 1 _ 245 (.slice (some ⟨g', 0, none⟩) (s.l.length + 1) cap) (hgr.out.st.at H.out.box hne)
  rw [<- hw4'] at x4
  have g6 : ∀ k, k < w4.heap.size -> k ≠ mb -> w6.heap[k]? = w4.heap[k]? := fun k hk hne => ht6.grown.block k (by simpa using hk) (by simpa using hne)
  have k4 : w4.cell? ⟨rb, 2, none⟩ = some (.map (some mb)) := zaa (W := w4) x4 rfl
  have s46 : St (fun x => x = mb) w4 w6 := by
   have s' := St.zam (S := fun x => x = mb) ht6.grown fun k e => by simpa using e.symm
   exact ⟨s'.os, s'.tape, s'.output, s'.size, s'.block⟩
  have FN := H.out.made HM.out HLT.out hgr.out (w4 := w6) (by rw [<- hw4']; exact s46) D HD.out HH.out D6
  have HFN := hid FN
  have HAT := hid hgr.out.at'
  clear FN s46 g6 x4 D6 D4 D3 ht6 hw4' hgr hx3 hf3 c1 c2 hl
  go_wp2_with fail
  go_ret
  refine ⟨rfl, _, HFN.out.1, ?_, HFN.out.2⟩
  rcases HAT.out with h | ⟨x, h, h'⟩
  ·exact .inl h
  exact .inr ⟨x, h, h'⟩
section
variable {B : Nat} {W W' : World} {rb : Nat} {s : AS} {S : Nat -> Prop}
theorem zse (h : Atl B W rb s S) (m : Nat) (hm : m < 2 ^ s.n) :
  Calls Tryz.prog 134 #[.pointer (some ⟨rb, 0, none⟩), .int .u32 (m : Int)] W fun e W' => e = .returned (.int .i64 (s.l.idxOf m : Int)) /\ Goes B rb (s.put m) S W W' := by
 obtain ⟨mb, sv, h1, h2⟩ := h
 by_cases hl : m ∈ s.l
 ·refine (z7p h1 m hl).mono ?_
  rintro e w ⟨rfl, hb⟩
  have e1 : s.put m = s := by unfold AS.put add; rw [if_pos hl]
  refine ⟨rfl, ?_⟩
  rw [e1]
  exact Goes.stay ⟨mb, sv, h1, h2⟩ hb
 refine (z2z h1 m hl hm).mono ?_
 rintro e w ⟨rfl, sv', h3, h4, h5⟩
 rw [List.idxOf_eq_length hl]
 refine ⟨rfl, _, ⟨mb, sv', h3, fun _ => Iff.rfl⟩, ⟨h5.os, h5.tape, h5.output, h5.size, fun k hk hn => h5.block k hk fun q => hn ((h2 k).2 q)⟩, fun x hx => ?_⟩
 rcases hx with hx | hx | hx
 ·exact .inl ((h2 x).2 (.inl hx))
 ·exact .inl ((h2 x).2 (.inr (.inl hx)))
 rcases h4 with h4 | ⟨y, h4, h6⟩
 ·exact .inl ((h2 x).2 (.inr (.inr (h4 ▸ hx))))
 rw [h4] at hx; simp at hx; exact .inr (by omega)
end
theorem z8g (n : Nat) (h : n <= 16) : ((2 : Int) ^ n - 1) % 4294967296 = ((2 ^ n - 1 : Nat) : Int) := by
 have hp := zfn h
 have hp0 : 0 < 2 ^ n := Nat.two_pow_pos n
 have e : (2 : Int) ^ n = ((2 ^ n : Nat) : Int) := (Int.natCast_pow 2 n).symm
 rw [e]
 generalize 2 ^ n = p at *
 omega
set_option maxRecDepth 100000 in
theorem zer (W : World) (n : Nat) (hn : n <= 16) :
  Calls Tryz.prog 88 #[.int .i64 (n : Int)] W fun e W' => ∃ rb S, e = .returned (.tuple #[.pointer (some ⟨rb, 0, none⟩), .nilIface]) /\ Atl W.heap.size W' rb ⟨n, [0]⟩ S /\ Below W.heap.size W W' := by
 have h2 : ¬ ((n : Int) < 0) := by omega
 have h3 : ¬ (16 < (n : Int)) := by omega
 have h4 : (n : Int) <= 32 := by omega
 have PS := hid (z8g n hn)
 have hmm := run_makeMap (P := Tryz.prog) 242
 have K : Hid (Atl W.heap.size ((W.alloc (.map #[] 0)).alloc (.cells #[.int .u32 ((2 ^ n - 1 : Nat) : Int), .slice none 0 0, .map (some W.heap.size)] 245)) (W.heap.size + 1) ⟨n, []⟩ (Ft (W.heap.size + 1) W.heap.size (.slice none 0 0)) /\ Below W.heap.size W ((W.alloc (.map #[] 0)).alloc (.cells #[.int .u32 ((2 ^ n - 1 : Nat) : Int), .slice none 0 0, .map (some W.heap.size)] 245))) := by
  refine ⟨⟨W.heap.size, .slice none 0 0, ⟨?_, ?_, ?_, ⟨hn, by simp, by simp⟩, by omega⟩, fun _ => Iff.rfl⟩, (bAl W _).alloc (by simp) _⟩
  ·have := heap_alloc_new (W.alloc (.map #[] 0)) (.cells #[.int .u32 ((2 ^ n - 1 : Nat) : Int), .slice none 0 0, .map (some W.heap.size)] 245)
   simpa using this
  ·exact World.ownsRow_nil _ _ _ _
  have := World.ownsMap_made W Tryz.prog 46 (plainElem (H := Unit) Tryz.prog 3)
  exact ⟨_, this.alloc _, fun i _ => ⟨rfl, rfl⟩, rfl⟩
 have hp0 : 0 < 2 ^ n := Nat.two_pow_pos n
 have NO : Hid (Calls Tryz.prog 134 #[.pointer (some ⟨W.heap.size + 1, 0, none⟩), .int .u32 0] ((W.alloc (.map #[] 0)).alloc (.cells #[.int .u32 ((2 ^ n - 1 : Nat) : Int), .slice none 0 0, .map (some W.heap.size)] 245)) fun e W' => e = .returned (.int .i64 0) /\ Goes W.heap.size (W.heap.size + 1) ⟨n, [0]⟩ (Ft (W.heap.size + 1) W.heap.size (.slice none 0 0)) ((W.alloc (.map #[] 0)).alloc (.cells #[.int .u32 ((2 ^ n - 1 : Nat) : Int), .slice none 0 0, .map (some W.heap.size)] 245)) W') := zse K.out.1 0 hp0
 have BK := hid K.out.2
 clear K hn hp0
 go_enter Tryz.func88, Tryz.ntmps88
 go_wp2_with fail
 rw [PS.out]
 refine NO.out.mono ?_
 rintro e w1 ⟨rfl, S1, a1, s1, f1⟩
 have A1 := hid a1
 have B1 : Hid (Below W.heap.size W w1) := BK.out.trans (s1.below (fun k hk => by rcases hk with rfl | rfl | hk; omega; omega; cases hk) BK.out.size)
 clear NO a1 s1 f1 hmm
 go_wp2_with fail
 go_ret2
 exact ⟨_, S1, rfl, A1.out, B1.out⟩
section
variable {B : Nat} {W W' : World} {rb : Nat} {s : AS} {S : Nat -> Prop}
theorem Atl.c0 (h : Atl B W rb s S) : W.cell? ⟨rb, 0, none⟩ = some (.int .u32 ((2 ^ s.n - 1 : Nat) : Int)) := by obtain ⟨mb, sv, h1, h2⟩ := h; exact h1.c0
theorem z5t (h : Atl B W rb s S) : 2 ^ s.n - 1 < 4294967296 := by have := zfn h.ok.n16; omega
set_option maxRecDepth 100000 in
theorem ycf (h : Atl B W rb s S) (m : Nat) (hm : m < 2 ^ s.n) :
  Calls Tryz.prog 171 #[.pointer (some ⟨rb, 0, none⟩), .int .u32 (m : Int)] W fun e W' => e = .returned (.tuple #[.int .i64 (s.l.idxOf m : Int), .nilIface]) /\ Goes B rb (s.put m) S W W' := by
 have c0 := h.c0
 have hm32 : m < 4294967296 := by have := zfn h.ok.n16; omega
 have WN := hid (zto m (2 ^ s.n - 1) hm32 (z5t h) W)
 rw [decide_eq_true ((within_iff hm32 h.ok.n16).2 hm)] at WN
 have NO := hid (zse h m hm)
 clear h hm hm32
 go_enter Tryz.func171, Tryz.ntmps171
 go_wp2_with fail
 refine WN.out.mono ?_
 rintro e w1 ⟨rfl, rfl⟩
 clear WN
 go_wp2_with fail
 refine NO.out.mono ?_
 rintro e w2 ⟨rfl, hg⟩
 have HG := hid hg
 clear NO hg
 go_wp2_with fail
 go_ret2
 exact ⟨rfl, HG.out⟩
end
theorem zad (W : World) (m : Nat) : Below W.heap.size W (W.drewN m) := by
 induction m generalizing W with
 | zero => exact Below.refl _ _
 | succ m ih => exact (ih W).drew
end At
namespace Ro
open Go.RowKit Go.Shelf Go.Maps
theorem Tryz.laidOut : laidOutB Tryz.prog = true := by kernel_rfl
theorem Tryz.z0n : 144 < Tryz.prog.types.size := of_decide_eq_true (by kernel_rfl)
theorem Tryz.zzw : (match Tryz.prog.underlying 144 with | some (.array _ _) | some (.struct _) => true | _ => false) = true := by rw [Tryz.underlying144]
set_option maxRecDepth 100000 in
theorem zco : Keyed Tryz.prog 144 := Keyed.of_law (deep_law_laid Tryz.laidOut (m := 2) (by omega) Tryz.z0n (by kernel_rfl) Tryz.zzw)
theorem ybm (w : World) : (zeroValue 230).run Tryz.prog w = .ok (.agg #[]) w := by kernel_rfl
def entV (i g : Int) : Value := .agg #[.int .i64 i, .int .i64 g]
def kl (i g : Int) : Lit := .string (keyBytes [.int .i64 i, .int .i64 g])
def I64 (i : Int) : Prop := (Lit.int .i64 i).wf = true
theorem zst (i g : Int) : WideAt.IsKeyLit (kl i g) := trivial
theorem z0b : Tryz.prog.keyType 144 = true := by kernel_rfl
theorem zou : Tryz.prog.types.size = 365 := by kernel_rfl
theorem z0z : ∃ d, Tryz.prog.types.size + 1 = d + 2 := ⟨364, congrArg (· + 1) zou⟩
theorem zjw : Tryz.prog.cellsOf 144 = 2 := by kernel_rfl
theorem cells3 : Tryz.prog.cellsOf 3 = 1 := by kernel_rfl
theorem zyj (d : Nat) (i : Int) (hi : I64 i) : Tryz.prog.keyLits (d + 1) 3 [.int .i64 i] = some [.int .i64 i] := by
 unfold Program.keyLits
 rw [Tryz.underlying3]
 exact if_pos ⟨rfl, hi⟩
theorem zwq (d : Nat) (i g : Int) (hi : I64 i) (hg : I64 g) : Tryz.prog.keyLits (d + 2) 144 [.int .i64 i, .int .i64 g] = some [.int .i64 i, .int .i64 g] := by
 unfold Program.keyLits
 rw [Tryz.underlying144]
 refine (if_pos ⟨by rw [zjw]; rfl, by kernel_rfl⟩).trans ?_
 simp only [List.mapM_cons, List.mapM_nil, cells3, List.drop_zero, List.drop_succ_cons, List.take_succ_cons, List.take_zero, zyj d i hi, zyj d g hg]
 rfl
theorem zdg (i g : Int) (hi : I64 i) (hg : I64 g) : keyOf Tryz.prog 144 (entV i g) = some (kl i g) := by
 obtain ⟨d, hd⟩ := z0z
 unfold keyOf
 rw [Tryz.underlying144, hd]
 have hf : (entV i g).formed Tryz.prog 144 = true := by
  unfold entV Value.formed
  rw [Tryz.underlying144, zjw]
  rfl
 have hc : (entV i g).cells.toList = [.int .i64 i, .int .i64 g] := rfl
 refine (if_pos (by rw [z0b, hf]; rfl)).trans ?_
 rw [hc, zwq d i g hi hg]
 rfl
theorem zqt {i g i' g' : Int} (h : entV i g = entV i' g') : i = i' /\ g = g' := by
 unfold entV at h
 simpa using h
theorem znv {i g i' g' : Int} (hi : I64 i) (hg : I64 g) (hi' : I64 i') (hg' : I64 g') (h : kl i g = kl i' g') : i = i' /\ g = g' :=
 zqt (zco.inj (zdg i g hi hg) (h ▸ zdg i' g' hi' hg'))
theorem zec {n : Int} (h0 : 0 <= n) (h1 : n <= 1000000) : I64 n := by
 unfold I64 Lit.wf
 simp [IntKind.min, IntKind.max, IntKind.signed, IntKind.bits]
 omega
structure RS where
 gens : List Nat
 free : List Nat
def RS.ok (r : RS) : Prop := r.free.Nodup /\ ∀ i ∈ r.free, i < r.gens.length
def RS.zbo (r : RS) (i g : Int) : Bool := decide (0 <= i /\ 0 <= g /\ i.toNat ∉ r.free /\ r.gens[i.toNat]? = some g.toNat)
theorem RS.zbf (r : RS) (i g : Int) : r.zbo i g = true ↔ 0 <= i /\ 0 <= g /\ i.toNat ∉ r.free /\ r.gens[i.toNat]? = some g.toNat := by unfold RS.zbo; exact decide_eq_true_iff
def RS.took (r : RS) (i : Nat) : RS := ⟨r.gens.set i (r.gens.getD i 0 + 1), r.free.dropLast⟩
def RS.freed (r : RS) (i : Nat) : RS := ⟨r.gens, r.free ++ [i]⟩
def Holds (D : DataW Unit) (r : RS) : Prop := (∀ i g, I64 i -> I64 g -> Maps.has D (kl i g) = r.zbo i g) /\ Maps.size D + r.free.length = r.gens.length
theorem RS.ok.took {r : RS} {f : List Nat} {i : Nat} (h : r.ok) (hf : r.free = f ++ [i]) : (r.took i).ok := by
 obtain ⟨h1, h2⟩ := h
 rw [hf] at h1 h2
 unfold RS.took RS.ok
 rw [hf, List.dropLast_concat]
 refine ⟨(List.nodup_append.1 h1).1, fun j hj => ?_⟩
 simpa using h2 j (List.mem_append_left _ hj)
theorem RS.zkv {r : RS} {f : List Nat} {i : Nat} (h : r.ok) (hf : r.free = f ++ [i]) (j g : Int) : (r.took i).zbo j g = if j = (i : Int) /\ g = ((r.gens.getD i 0 + 1 : Nat) : Int) then true else r.zbo j g := by
 obtain ⟨h1, h2⟩ := h
 rw [hf] at h1 h2
 have hi := h2 i (by simp)
 have hn : i ∉ f := fun hm => by
  have := (List.nodup_append.1 h1).2.2 i hm i (by simp)
  exact this rfl
 split
 ·rename_i hc
  obtain ⟨rfl, rfl⟩ := hc
  rw [RS.zbf]
  refine ⟨by omega, by omega, ?_, ?_⟩
  ·simp only [RS.took, hf, List.dropLast_concat, Int.toNat_natCast]; exact hn
  simp only [RS.took, Int.toNat_natCast]
  rw [List.getElem?_set_self hi]
 rename_i hc
 rw [Bool.eq_iff_iff, RS.zbf, RS.zbf]
 simp only [RS.took, hf, List.dropLast_concat]
 by_cases hj : j.toNat = i
 ·rw [hj]
  constructor
  ·rintro ⟨a, b, c, d⟩
   rw [List.getElem?_set_self hi] at d
   simp only [Option.some.injEq] at d
   exact absurd ⟨by omega, by omega⟩ hc
  rintro ⟨a, b, c, d⟩
  exact absurd (by simp) c
 rw [List.getElem?_set_ne (fun e => hj e.symm)]
 simp only [List.mem_append, List.mem_singleton, not_or]
 constructor
 ·rintro ⟨a, b, c, d⟩; exact ⟨a, b, ⟨c, hj⟩, d⟩
 rintro ⟨a, b, ⟨c, _⟩, d⟩; exact ⟨a, b, c, d⟩
theorem RS.z3k {r : RS} {i g : Int} (h : r.ok) (ha : r.zbo i g = true) : (r.freed i.toNat).ok := by
 obtain ⟨a, b, c, d⟩ := (RS.zbf r i g).1 ha
 refine ⟨?_, ?_⟩
 ·unfold RS.freed
  rw [List.nodup_append]
  exact ⟨h.1, by simp, fun x hx y hy e => by simp at hy; subst hy; exact c (e ▸ hx)⟩
 intro j hj
 rcases List.mem_append.1 hj with hj | hj
 ·exact h.2 j hj
 simp at hj; subst hj; exact (List.getElem?_eq_some_iff.1 d).1
theorem RS.zjt {r : RS} {i g : Int} (ha : r.zbo i g = true) (j k : Int) : (r.freed i.toNat).zbo j k = if j = i /\ k = g then false else r.zbo j k := by
 obtain ⟨a, b, c, d⟩ := (RS.zbf r i g).1 ha
 split
 ·rename_i hc
  obtain ⟨rfl, rfl⟩ := hc
  rw [Bool.eq_false_iff]
  intro h
  obtain ⟨_, _, h3, _⟩ := (RS.zbf _ _ _).1 h
  exact h3 (by simp [RS.freed])
 rename_i hc
 rw [Bool.eq_iff_iff, RS.zbf, RS.zbf]
 simp only [RS.freed, List.mem_append, List.mem_singleton, not_or]
 constructor
 ·rintro ⟨a', b', ⟨c', _⟩, d'⟩; exact ⟨a', b', c', d'⟩
 rintro ⟨a', b', c', d'⟩
 refine ⟨a', b', ⟨c', fun e => ?_⟩, d'⟩
 rw [e, d] at d'
 simp only [Option.some.injEq] at d'
 exact hc ⟨by omega, by omega⟩
theorem Holds.took {D : DataW Unit} {r : RS} {f : List Nat} {i : Nat} (hD : Tidy D) (h : Holds D r) (hok : r.ok) (hf : r.free = f ++ [i]) (h1 : I64 (i : Int)) (h2 : I64 ((r.gens.getD i 0 + 1 : Nat) : Int)) (u : DataW Unit) : Holds (D.put (kl i ((r.gens.getD i 0 + 1 : Nat) : Int)) u) (r.took i) := by
 refine ⟨fun j g hj hg => ?_, ?_⟩
 ·rw [RS.zkv hok hf]
  split
  ·rename_i hc
   obtain ⟨rfl, rfl⟩ := hc
   exact Maps.has_put_same hD.isMap (zst _ _) u
  rename_i hc
  rw [Maps.has_put_other (fun e => hc (znv hj hg h1 h2 e)) u]
  exact h.1 j g hj hg
 have hn : r.zbo (i : Int) ((r.gens.getD i 0 + 1 : Nat) : Int) = false := by
  rw [Bool.eq_false_iff]
  intro ha
  obtain ⟨_, _, c, _⟩ := (RS.zbf _ _ _).1 ha
  exact c (by simp [hf])
 rw [Maps.size_put hD, h.1 _ _ h1 h2, hn]
 have := h.2
 simp only [RS.took, hf, List.dropLast_concat, List.length_set, List.length_append, List.length_singleton] at this ⊢
 simp
 omega
theorem Holds.freed {D : DataW Unit} {r : RS} {i g : Int} (hD : Tidy D) (h : Holds D r) (ha : r.zbo i g = true) (h1 : I64 i) (h2 : I64 g) : Holds (D.del (kl i g)) (r.freed i.toNat) := by
 refine ⟨fun j k hj hk => ?_, ?_⟩
 ·rw [RS.zjt ha]
  split
  ·rename_i hc
   obtain ⟨rfl, rfl⟩ := hc
   exact Maps.has_del_same
  rename_i hc
  rw [Maps.has_del_other (fun e => hc (znv hj hk h1 h2 e))]
  exact h.1 j k hj hk
 have := Maps.size_del (k := kl i g) hD
 rw [h.1 _ _ h1 h2, ha] at this
 have h3 := h.2
 simp only [RS.freed, List.length_append, List.length_singleton] at this ⊢
 simp at this
 omega
structure St (S : Nat -> Prop) (W W' : World) : Prop where
 os : W'.os = W.os
 tape : W'.tape = W.tape
 output : W'.output = W.output
 size : W.heap.size <= W'.heap.size
 block : ∀ k, k < W.heap.size -> ¬ S k -> W'.heap[k]? = W.heap[k]?
theorem St.trans {S T : Nat -> Prop} {a b c : World} (h : St S a b) (k : St T b c) (hs : ∀ x, x < a.heap.size -> T x -> S x) : St S a c :=
 ⟨k.os.trans h.os, k.tape.trans h.tape, k.output.trans h.output, Nat.le_trans h.size k.size, fun x hx hn => (k.block x (Nat.lt_of_lt_of_le hx h.size) (fun q => hn (hs x hx q))).trans (h.block x hx hn)⟩
theorem St.of_below {S : Nat -> Prop} {a b : World} (h : Below a.heap.size a b) : St S a b := ⟨h.os, h.tape, h.output, h.size, fun k hk _ => h.block k hk⟩
theorem St.zam {S : Nat -> Prop} {a b : World} {row : Option Nat} (h : a.grownBy b row) (hS : ∀ k, row = some k -> S k) : St S a b :=
 ⟨h.os, h.tape, h.output, h.size, fun k hk hn => h.block k hk (fun e => hn (hS k e.symm))⟩
theorem St.below {S : Nat -> Prop} {a b : World} {B : Nat} (h : St S a b) (hS : ∀ k, S k -> B <= k) (hB : B <= a.heap.size) : Below B a b :=
 ⟨h.os, h.tape, h.output, h.size, fun k hk => h.block k (by omega) (fun q => by have := hS k q; omega)⟩
theorem St.setCell {S : Nat -> Prop} {a : World} {p : Addr} (v : Value) (hp : S p.block) : St S a (a.setCell p v) :=
 ⟨rfl, rfl, rfl, by simp, fun k _ hn => Below.heap_setCell _ _ _ _ (fun e => hn (e ▸ hp))⟩
def gI (n : Nat) : Value := .int .i64 (n : Int)
def Ft (rb gb mb : Nat) (fv : Value) (k : Nat) : Prop := k = rb \/ k = gb \/ k = mb \/ fv.ownBlock = some k
structure Rl (B : Nat) (W : World) (rb gb mb : Nat) (fv : Value) (t : Nat) (r : RS) : Prop where
 box : W.heap[rb]? = some (.cells #[.slice (some ⟨gb, 0, none⟩) r.gens.length r.gens.length, fv, .map (some mb)] 241 (0, 0))
 gens : W.heap[gb]? = some (.cells (r.gens.map gI).toArray 3 (0, 0))
 free : W.ownsRow B 3 1 fv r.free.length (r.free.map gI)
 map : ∃ D, W.ownsMap Tryz.prog 144 (unitElem (H := Unit)) mb t D /\ Holds D r
 ok : r.ok
 small : r.gens.length <= 64
 old : ∀ g ∈ r.gens, g <= t
 low : B <= rb /\ B <= gb /\ B <= mb
 apart : fv.ownBlock ≠ some gb
theorem Rl.kept {B : Nat} {W W' : World} {rb gb mb t : Nat} {fv : Value} {r : RS} {T : Nat -> Prop} (h : Rl B W rb gb mb fv t r) (hs : St T W W') (hd : ∀ k, Ft rb gb mb fv k -> ¬ T k) : Rl B W' rb gb mb fv t r := by
 have lt := fun {k : Nat} {o : Obj} (h : W.heap[k]? = some o) => (Array.getElem?_eq_some_iff.1 h).1
 refine ⟨(hs.block rb (lt h.box) (hd _ (.inl rfl))).trans h.box, (hs.block gb (lt h.gens) (hd _ (.inr (.inl rfl)))).trans h.gens, ?_, ?_, h.ok, h.small, h.old, h.low, h.apart⟩
 ·exact zas h.free fun g cur hg hb => (hs.block g (lt hb) (hd _ (.inr (.inr (.inr hg))))).trans hb
 obtain ⟨D, ⟨es, clock, hb, q⟩, hH⟩ := h.map
 exact ⟨D, ⟨es, clock, (hs.block mb (lt hb) (hd _ (.inr (.inr (.inl rfl))))).trans hb, q⟩, hH⟩
theorem Rl.later {B : Nat} {W W' : World} {rb gb mb t : Nat} {fv : Value} {r : RS} (h : Rl B W rb gb mb fv t r) (hb : Below W.heap.size W W') : Rl B W' rb gb mb fv t r := h.kept (T := fun _ => False) (St.of_below hb) (fun _ _ q => q)
theorem Rl.lt {B : Nat} {W : World} {rb gb mb t : Nat} {fv : Value} {r : RS} (h : Rl B W rb gb mb fv t r) (k : Nat) (hk : Ft rb gb mb fv k) : B <= k /\ k < W.heap.size := by
 have lt := fun {k : Nat} {o : Obj} (h : W.heap[k]? = some o) => (Array.getElem?_eq_some_iff.1 h).1
 rcases hk with rfl | rfl | rfl | hk
 ·exact ⟨h.low.1, lt h.box⟩
 ·exact ⟨h.low.2.1, lt h.gens⟩
 ·obtain ⟨D, hD, _⟩ := h.map; exact ⟨h.low.2.2, hD.lt⟩
 exact h.free.lt k hk
theorem zaa {W : World} {b j : Nat} {cs : Array Value} {e : TypeId} {u : Value} (h : W.heap[b]? = some (.cells cs e (0, 0))) (hj : cs[j]? = some u) : W.cell? ⟨b, j, none⟩ = some u := by
 rw [cell_of_row _ _ j _ e (0, 0) h]; exact hj
theorem Rl.c0 {B : Nat} {W : World} {rb gb mb t : Nat} {fv : Value} {r : RS} (h : Rl B W rb gb mb fv t r) : W.cell? ⟨rb, 0, none⟩ = some (.slice (some ⟨gb, 0, none⟩) r.gens.length r.gens.length) := zaa h.box rfl
theorem Rl.c1 {B : Nat} {W : World} {rb gb mb t : Nat} {fv : Value} {r : RS} (h : Rl B W rb gb mb fv t r) : W.cell? ⟨rb, 1, none⟩ = some fv := zaa h.box rfl
theorem Rl.c2 {B : Nat} {W : World} {rb gb mb t : Nat} {fv : Value} {r : RS} (h : Rl B W rb gb mb fv t r) : W.cell? ⟨rb, 2, none⟩ = some (.map (some mb)) := zaa h.box rfl
theorem seen {B : Nat} {W W' : World} (hb : Below B W W') (hB : W.heap.size <= B) {p : Addr} {u : Value} (h : W.cell? p = some u) : W'.cell? p = some u := (hb.cell (p := p) (Nat.lt_of_lt_of_le (World.block_lt_of_cell? W p h) hB)).trans h
theorem z1k {W : World} {mb t : Nat} {D : DataW Unit} (hD : W.ownsMap Tryz.prog 144 (unitElem (H := Unit)) mb t D) {i g : Int} (hi : I64 i) (hg : I64 g) {b : Bool} (hb : Maps.has D (kl i g) = b) :
  (Instr.lookup 239 (.map (some mb)) (.agg #[.int .i64 i, .int .i64 g]) true).run Tryz.prog W = .ok (.tuple #[.agg #[], .bool b]) W := by
 obtain ⟨v, ps, hr, hv⟩ := hD.look_ok zco Tryz.underlying239 (ybm W) (unitElem_mk (H := Unit)) (zdg i g hi hg)
 obtain ⟨rfl, -⟩ := unitElem_inv hv
 rw [hb] at hr
 exact hr
set_option maxRecDepth 100000 in
theorem znt {B : Nat} {W : World} {rb gb mb t : Nat} {fv : Value} {r : RS} (h : Rl B W rb gb mb fv t r) (i g : Int) (hi : I64 i) (hg : I64 g) :
  Calls Tryz.prog 156 #[.pointer (some ⟨rb, 0, none⟩), .agg #[.int .i64 i, .int .i64 g]] W fun e W' => e = .returned (.bool (r.zbo i g)) /\ Below W.heap.size W W' := by
 have BA : Hid (Below W.heap.size W (W.alloc (.cells #[.int .i64 i, .int .i64 g] 144))) := (Below.refl _ _).alloc (Nat.le_refl _) _
 obtain ⟨d0, d1⟩ := zdv W (.int .i64 i) (.int .i64 g) 144
 have KK : Hid (∀ W', Below (W.alloc (.cells #[.int .i64 i, .int .i64 g] 144)).heap.size (W.alloc (.cells #[.int .i64 i, .int .i64 g] 144)) W' -> W'.cell? ⟨rb, 2, none⟩ = some (.map (some mb)) /\ W'.cell? ⟨W.heap.size, 0, none⟩ = some (.int .i64 i) /\ W'.cell? ⟨W.heap.size, 1, none⟩ = some (.int .i64 g) /\ (Instr.lookup 239 (.map (some mb)) (.agg #[.int .i64 i, .int .i64 g]) true).run Tryz.prog W' = .ok (.tuple #[.agg #[], .bool (r.zbo i g)]) W') := by
  intro W' hb
  have h' := (h.later BA.out).later hb
  obtain ⟨D, hD, hH⟩ := h'.map
  exact ⟨h'.c2, seen hb (Nat.le_refl _) d0, seen hb (Nat.le_refl _) d1, z1k hD hi hg (hH.1 i g hi hg)⟩
 generalize r.zbo i g = res at *
 clear h hi hg d0 d1
 go_enter Tryz.func156, Tryz.ntmps156
 go_wp2_with fail
 go_region_held3 (fun W' => W'.cell? ⟨rb, 2, none⟩ = some (.map (some mb)) /\ W'.cell? ⟨W.heap.size, 0, none⟩ = some (.int .i64 i) /\ W'.cell? ⟨W.heap.size, 1, none⟩ = some (.int .i64 g) /\ (Instr.lookup 239 (.map (some mb)) (.agg #[.int .i64 i, .int .i64 g]) true).run Tryz.prog W' = .ok (.tuple #[.agg #[], .bool res]) W')
  (first | exact KK.out _ (Below.refl _ _).drew | exact KK.out _ ((Below.refl _ _).drew.alloc (by simp) _)) (fail)
 all_goals go_wp2_with fail
 all_goals go_ret
 all_goals exact ⟨rfl, (BA.out.alloc (by simp) _).drew⟩
theorem zpe {W : World} {mb t : Nat} {D : DataW Unit} (hD : W.ownsMap Tryz.prog 144 (unitElem (H := Unit)) mb t D) (n : Nat) (hn : Maps.size D = n) (ty : TypeId) :
  (Builtin.len_ #[239] ty #[.map (some mb)]).run Tryz.prog W = .ok (.int .i64 (n : Int)) W := by
 rw [<- hn]; exact hD.len Tryz.underlying239 ty
def RS.count (r : RS) : Nat := r.gens.length - r.free.length
theorem zji {B : Nat} {W : World} {rb gb mb t : Nat} {fv : Value} {r : RS} (h : Rl B W rb gb mb fv t r) :
  Calls Tryz.prog 110 #[.pointer (some ⟨rb, 0, none⟩)] W fun e W' => e = .returned (.int .i64 (r.count : Int)) /\ W' = W := by
 have c2 := h.c2
 obtain ⟨D, hD, hH⟩ := h.map
 have hl := zpe hD r.count (by have := hH.2; unfold RS.count; omega)
 clear hD hH h
 go_enter Tryz.func110, Tryz.ntmps110
 go_wp2
 go_ret
 exact ⟨rfl, rfl⟩
def four : List Nat := [1, 2, 6, 17]
structure Env4 (w : World) (Ad : Nat -> Addr) : Prop where
 cell : ∀ k ∈ four, w.cell? ⟨gv k, 0, none⟩ = some (.iface 330 (.pointer (some (Ad k))))
 sen : ∀ k ∈ four, SenK w (Ad k)
 inj : ∀ i ∈ four, ∀ j ∈ four, Ad i = Ad j -> i = j
theorem Env4.c6 {w : World} {Ad : Nat -> Addr} (h : Env4 w Ad) : w.cell? ⟨1, 0, none⟩ = some (.iface 330 (.pointer (some (Ad 6)))) := h.cell 6 (by decide)
def z1c (Ad : Nat -> Addr) (W : World) (v : Value) (s : ByteArray) (k : Nat) : Prop := Chn Ad W.heap.size W 1 v ([s], k)
theorem zyl (Ad : Nat -> Addr) (s : ByteArray) (k : Nat) (hk : 1 <= k /\ k <= 18) (w : World) :
  Calls Tryz.prog 38 #[.string s, .iface 330 (.pointer (some (Ad k)))] w fun e w' => e = .returned (.iface 159 (.pointer (some ⟨w.heap.size, 0, none⟩))) /\ z1c Ad w' (.iface 159 (.pointer (some ⟨w.heap.size, 0, none⟩))) s k /\ Below w.heap.size w w' := by
 refine (zpu s 330 (.pointer (some (Ad k))) w).mono ?_
 rintro e w' ⟨rfl, rfl⟩
 obtain ⟨c0, c1⟩ := zdv w (.string s) (.iface 330 (.pointer (some (Ad k)))) 161
 exact ⟨rfl, ⟨⟨w.heap.size, _, rfl, by simp, c0, c1, rfl⟩, hk.1, hk.2, by simp⟩, (Below.refl _ _).alloc (Nat.le_refl _) _⟩
def z8z : ByteArray := ⟨#[116, 97, 107, 101]⟩
theorem zbj {W : World} {b j : Nat} {cs : Array Value} {e : TypeId} {u : Value} (h : W.heap[b]? = some (.cells cs e (0, 0))) (hj : cs[j]? = some u) : W.setCell ⟨b, j, none⟩ u = W := by
 have e : (W.setCell ⟨b, j, none⟩ u).heap = W.heap := by
  apply Array.ext_getElem?
  intro k
  by_cases hk : k = b
  ·subst hk
   rw [heap_setCell_same W k j cs e u h, h]
   have : cs.setIfInBounds j u = cs := by
    apply Array.ext_getElem?
    intro m
    rw [Array.getElem?_setIfInBounds]
    split
    ·rename_i hm
     subst hm
     have := (Array.getElem?_eq_some_iff.1 hj).1
     rw [if_pos this, hj]
    rfl
   rw [this]
  exact Below.heap_setCell _ _ _ _ hk
 unfold World.setCell at e ⊢
 cases W
 simp at e ⊢
 exact e
theorem zac {W : World} {b : Nat} {cs : Array Value} {e : TypeId} (h : W.heap[b]? = some (.cells cs e (0, 0))) (j : Nat) : W.frozen? ⟨b, j, none⟩ = false := by
 unfold World.frozen?
 rw [show (⟨b, j, none⟩ : Addr).block = b from rfl, h]
 simp
theorem zab {W W' : World} {B b : Nat} {o : Obj} (hb : Below B W W') (hB : W.heap.size <= B) (h : W.heap[b]? = some o) : W'.heap[b]? = some o := (hb.block b (Nat.lt_of_lt_of_le (Array.getElem?_eq_some_iff.1 h).1 hB)).trans h
set_option maxRecDepth 100000 in
theorem zwx (Ad : Nat -> Addr) {B : Nat} {W : World} {rb gb mb t : Nat} {fv : Value} {r : RS} (h : Rl B W rb gb mb fv t r) (hE : Env4 W Ad) (hf : r.free = []) :
  Calls Tryz.prog 152 #[.pointer (some ⟨rb, 0, none⟩)] W fun e W' => ∃ b, e = .returned (.tuple #[.agg #[.int .i64 0, .int .i64 0], .iface 159 (.pointer (some ⟨b, 0, none⟩))]) /\ W.heap.size <= b /\ z1c Ad W' (.iface 159 (.pointer (some ⟨b, 0, none⟩))) z8z 6 /\ Below W.heap.size W W' := by
 have BA : Hid (Below W.heap.size W (W.alloc (.cells #[.int .i64 0, .int .i64 0] 144))) := (Below.refl _ _).alloc (Nat.le_refl _) _
 have e2 := hE.c6
 have hl := World.block_lt_of_cell? W _ e2
 have hn := World.new_ne W _ e2
 have c1 := h.c1
 have hrl := World.block_lt_of_cell? W _ c1
 have hrn := World.new_ne W _ c1
 obtain ⟨fa, fc, rfl⟩ := zaf h.free
 have hz : (r.free.length : Int) = 0 := by rw [hf]; rfl
 rw [hf] at c1
 have AC := hid (zyl Ad z8z 6 (by decide) (W.alloc (.cells #[.int .i64 0, .int .i64 0] 144)))
 clear hE h hf hz
 go_enter Tryz.func152, Tryz.ntmps152
 go_wp2_with fail
 refine AC.out.mono ?_
 rintro e w1 ⟨rfl, hv, hb⟩
 generalize hq : (W.alloc (.cells #[.int .i64 0, .int .i64 0] 144)).heap.size = q at hv ⊢
 have hqW : W.heap.size <= q := by rw [<- hq]; simp
 clear hq
 have HV := hid hv
 have HB := hid (BA.out.trans (hb.mono BA.out.size))
 have HH := hid (zab hb (Nat.le_refl _) (heap_alloc_new W (.cells #[.int .i64 0, .int .i64 0] 144)))
 have d0 := zaa HH.out (j := 0) rfl
 have d1 := zaa HH.out (j := 1) rfl
 have f0 := zac HH.out 0
 have f1 := zac HH.out 1
 clear hv hb e2 hl hn AC
 go_wp2_with fail
 rw [zbj HH.out rfl, zbj HH.out rfl]
 exact bodyPost_ret (v := .tuple #[.agg #[.int .i64 0, .int .i64 0], .iface 159 (.pointer (some ⟨q, 0, none⟩))]) (by simp [results, Tryz.results152, go_sem, d0, d1]) rfl ⟨q, rfl, hqW, HV.out, HB.out⟩
theorem Rl.z5w {B : Nat} {W : World} {rb gb mb t : Nat} {fv : Value} {r : RS} (h : Rl B W rb gb mb fv t r) : rb ≠ gb := fun e => by
 have h1 := h.box
 rw [e, h.gens] at h1
 simp at h1
theorem Rl.zgh {B : Nat} {W : World} {rb gb mb t : Nat} {fv : Value} {r : RS} (h : Rl B W rb gb mb fv t r) : rb ≠ mb := fun e => by
 have h1 := h.box
 obtain ⟨D, ⟨es, cl, hb, _⟩, _⟩ := h.map
 rw [e, hb] at h1
 simp at h1
theorem Rl.z6m {B : Nat} {W : World} {rb gb mb t : Nat} {fv : Value} {r : RS} (h : Rl B W rb gb mb fv t r) : gb ≠ mb := fun e => by
 have h1 := h.gens
 obtain ⟨D, ⟨es, cl, hb, _⟩, _⟩ := h.map
 rw [e, hb] at h1
 simp at h1
theorem Rl.ne_f {B : Nat} {W : World} {rb gb mb t : Nat} {fv : Value} {r : RS} (h : Rl B W rb gb mb fv t r) (k : Nat) (hk : fv.ownBlock = some k) : k ≠ rb /\ k ≠ gb /\ k ≠ mb := by
 rcases h.free.2 with ⟨h1, _⟩ | ⟨g, cap, cur, h1, h2, h3, h4⟩
 ·rw [h1] at hk; simp [Value.ownBlock] at hk
 rw [h1] at hk
 have e : g = k := by simpa [Value.ownBlock] using hk
 subst e
 refine ⟨fun e => ?_, fun e => h.apart (by rw [h1, <- e]; rfl), fun e => ?_⟩
 ·rw [e, h.box] at h3; simp at h3
 obtain ⟨D, ⟨es, cl, hb, _⟩, _⟩ := h.map
 rw [e, hb] at h3; simp at h3
theorem ztk {W : World} {B fb fc : Nat} {f : List Nat} {i : Nat} (h : W.ownsRow B 3 1 (.slice (some ⟨fb, 0, none⟩) (f.length + 1) fc) (f.length + 1) ((f ++ [i]).map gI)) : W.ownsRow B 3 1 (.slice (some ⟨fb, 0, none⟩) f.length fc) f.length (f.map gI) := by
 refine ⟨by simp, ?_⟩
 rcases h.2 with ⟨h1, _⟩ | ⟨g, cap, cur, h1, h2, h3, h4, h5, h6, h7⟩
 ·cases h1
 simp only [Value.slice.injEq, Option.some.injEq, Addr.mk.injEq, true_and, and_true] at h1
 obtain ⟨rfl, rfl⟩ := h1
 refine .inr ⟨fb, fc, cur, rfl, h2, h3, by omega, h5, h6, ?_⟩
 have := congrArg (List.take f.length) h7
 rw [List.take_take] at this
 simp only [Nat.mul_one] at this ⊢
 rw [show min f.length (f.length + 1) = f.length by omega] at this
 rw [this]
 simp
theorem z3e (gs : List Nat) (i g : Nat) : (gs.map gI).toArray.setIfInBounds i (.int .i64 ((g : Int) + 1)) = ((gs.set i (g + 1)).map gI).toArray := by
 rw [List.map_set]
 simp [gI]
theorem Rl.few {B : Nat} {W : World} {rb gb mb t : Nat} {fv : Value} {r : RS} (h : Rl B W rb gb mb fv t r) : r.free.length <= r.gens.length := by
 obtain ⟨D, _, hH⟩ := h.map
 have := hH.2
 omega
theorem Rl.took {B : Nat} {W W7 : World} {rb gb mb t fb fc : Nat} {f : List Nat} {i : Nat} {r : RS} (h : Rl B W rb gb mb (.slice (some ⟨fb, 0, none⟩) r.free.length fc) t r) (hf : r.free = f ++ [i]) (ht : t <= 1000)
  (hs : St (fun k => k = mb) ((W.setCell ⟨rb, 1, none⟩ (.slice (some ⟨fb, 0, none⟩) f.length fc)).setCell ⟨gb, i, none⟩ (.int .i64 ((r.gens.getD i 0 : Nat) + 1 : Int))) W7)
  (D : DataW Unit) (hD1 : W.ownsMap Tryz.prog 144 (unitElem (H := Unit)) mb t D) (hH : Holds D r) (hD : W7.ownsMap Tryz.prog 144 (unitElem (H := Unit)) mb (t + 1) (D.put (kl i ((r.gens.getD i 0 + 1 : Nat) : Int)) (.agg []))) :
  Rl B W7 rb gb mb (.slice (some ⟨fb, 0, none⟩) f.length fc) (t + 1) (r.took i) /\ St (Ft rb gb mb (.slice (some ⟨fb, 0, none⟩) r.free.length fc)) W W7 := by
 have hfl : r.free.length = f.length + 1 := by rw [hf]; simp
 have n1 := h.z5w
 have n2 := h.zgh
 have n3 := h.z6m
 obtain ⟨n4, n5, n6⟩ := h.ne_f fb rfl
 have hi : i < r.gens.length := h.ok.2 i (by rw [hf]; simp)
 have l1 : rb < W.heap.size := (h.lt rb (.inl rfl)).2
 have l2 : gb < W.heap.size := (h.lt gb (.inr (.inl rfl))).2
 have l3 : fb < W.heap.size := (h.lt fb (.inr (.inr (.inr rfl)))).2
 have hgt : r.gens.getD i 0 <= t := by rw [List.getD_eq_getElem?_getD, List.getElem?_eq_getElem hi]; exact h.old _ (List.getElem_mem hi)
 have hg1 : (r.took i).gens = r.gens.set i (r.gens.getD i 0 + 1) := rfl
 have hf1 : (r.took i).free = f := by simp [RS.took, hf]
 have B1 : (W.setCell ⟨rb, 1, none⟩ (.slice (some ⟨fb, 0, none⟩) f.length fc)).heap[rb]? = some (.cells #[.slice (some ⟨gb, 0, none⟩) r.gens.length r.gens.length, .slice (some ⟨fb, 0, none⟩) f.length fc, .map (some mb)] 241 (0, 0)) := heap_setCell_same W rb 1 _ 241 _ h.box
 have G1 : (W.setCell ⟨rb, 1, none⟩ (.slice (some ⟨fb, 0, none⟩) f.length fc)).heap[gb]? = some (.cells (r.gens.map gI).toArray 3 (0, 0)) := (Below.heap_setCell _ _ _ _ (fun e => n1 e.symm)).trans h.gens
 refine ⟨⟨?_, ?_, ?_, ?_, h.ok.took hf, ?_, ?_, h.low, ?_⟩, ?_⟩
 ·rw [hs.block rb (by simpa using l1) n2, Below.heap_setCell _ _ _ _ n1, B1, hg1]; simp
 ·rw [hs.block gb (by simpa using l2) n3, heap_setCell_same _ gb i _ 3 _ G1, hg1, z3e]
 ·rw [hf1]
  have h0 := h.free
  rw [hfl, hf] at h0
  refine zas (ztk h0) fun k cur hk hb => ?_
  obtain rfl : fb = k := by simpa [Value.ownBlock] using hk
  rw [hs.block fb (by simpa using l3) n6, Below.heap_setCell _ _ _ _ n5, Below.heap_setCell _ _ _ _ n4, hb]
 ·exact ⟨_, hD, hH.took (hD1.tidy zco) h.ok hf (zec (by omega) (by have := h.small; omega)) (zec (by omega) (by omega)) _⟩
 ·rw [hg1, List.length_set]; exact h.small
 ·intro g hg
  rw [hg1] at hg
  rcases List.mem_or_eq_of_mem_set hg with hg | rfl
  ·have := h.old g hg; omega
  omega
 ·exact fun e => h.apart (by simpa [Value.ownBlock] using e)
 have S1 : St (Ft rb gb mb (.slice (some ⟨fb, 0, none⟩) r.free.length fc)) W (W.setCell ⟨rb, 1, none⟩ (.slice (some ⟨fb, 0, none⟩) f.length fc)) := St.setCell _ (.inl rfl)
 have S2 : St (Ft rb gb mb (.slice (some ⟨fb, 0, none⟩) r.free.length fc)) (W.setCell ⟨rb, 1, none⟩ (.slice (some ⟨fb, 0, none⟩) f.length fc)) ((W.setCell ⟨rb, 1, none⟩ (.slice (some ⟨fb, 0, none⟩) f.length fc)).setCell ⟨gb, i, none⟩ (.int .i64 ((r.gens.getD i 0 : Nat) + 1 : Int))) := St.setCell _ (.inr (.inl rfl))
 exact (S1.trans S2 fun _ _ q => q).trans hs fun x _ q => .inr (.inr (.inl q))
set_option maxRecDepth 100000 in
theorem zzf {B : Nat} {W : World} {rb gb mb t : Nat} {fv : Value} {f : List Nat} {i : Nat} {r : RS} (h : Rl B W rb gb mb fv t r) (hf : r.free = f ++ [i]) (ht : t <= 1000) :
  Calls Tryz.prog 152 #[.pointer (some ⟨rb, 0, none⟩)] W fun e W' => e = .returned (.tuple #[.agg #[.int .i64 i, .int .i64 ((r.gens.getD i 0 : Nat) + 1 : Int)], .nilIface]) /\ ∃ fv', Rl B W' rb gb mb fv' (t + 1) (r.took i) /\ fv'.ownBlock = fv.ownBlock /\ St (Ft rb gb mb fv) W W' := by
 have H := hid h
 have hfl : r.free.length = f.length + 1 := by rw [hf]; simp
 obtain ⟨fa, fc, rfl⟩ := zaf h.free
 have ho := h.free
 obtain ⟨fb, rfl, hfB, hfW⟩ := zdo ho (by omega)
 have hi : i < r.gens.length := h.ok.2 i (by rw [hf]; simp)
 obtain ⟨m, hm⟩ : ∃ m, m = f.length := ⟨_, rfl⟩
 obtain ⟨g, hg⟩ : ∃ g, g = r.gens.getD i 0 := ⟨_, rfl⟩
 obtain ⟨n, hn⟩ : ∃ n, n = r.gens.length := ⟨_, rfl⟩
 have hgt : g <= t := by rw [hg, List.getD_eq_getElem?_getD, List.getElem?_eq_getElem hi]; exact h.old _ (List.getElem_mem hi)
 have c0 := h.c0
 have c1 := h.c1
 have c2 := h.c2
 rw [hfl, <- hm] at c1
 rw [<- hn] at c0 hi
 have cf : W.cell? ⟨fb, m, none⟩ = some (.int .i64 (i : Int)) := by
  rw [ho.cellAt m (by omega), hf, hm]; simp [gI]
 have cg : W.cell? ⟨gb, i, none⟩ = some (.int .i64 (g : Int)) := by
  refine zaa h.gens ?_
  have : i < r.gens.length := by omega
  simp [hg, gI, this, List.getD_eq_getElem?_getD]
 have fr1 := zac h.box 1
 have frg := zac h.gens i
 have n1 := h.z5w
 obtain ⟨n2, n3, _⟩ := h.ne_f fb rfl
 have l1 : rb < W.heap.size := (h.lt rb (.inl rfl)).2
 have l2 : gb < W.heap.size := (h.lt gb (.inr (.inl rfl))).2
 have l3 : fb < W.heap.size := hfW
 have m1 : ¬ (rb = W.heap.size) := by omega
 have m2 : ¬ (gb = W.heap.size) := by omega
 have m3 : ¬ (fb = W.heap.size) := by omega
 have m1' : ¬ (rb = W.heap.size + 1) := by omega
 have m2' : ¬ (gb = W.heap.size + 1) := by omega
 have n1' : ¬ (gb = rb) := fun e => n1 e.symm
 have n2' : ¬ (rb = fb) := fun e => n2 e.symm
 have n3' : ¬ (gb = fb) := fun e => n3 e.symm
 have hii : (i : Int) < (n : Int) := by omega
 have hn64 : (n : Int) <= 64 := by have := h.small; omega
 have hm64 : (m : Int) <= 64 := by have := h.small; have := h.few; omega
 have hmc : (m : Int) + 1 <= (fc : Int) := by
  rcases ho.2 with ⟨h1, _⟩ | ⟨_, _, _, h1, _, _, h4, _⟩
  ·simp at h1
  simp at h1; omega
 have hgi : (g : Int) <= 1000 := by omega
 have hmz : ((m : Int) + 1 == 0) = false := by rw [beq_eq_false_iff_ne]; omega
 obtain ⟨D, hD, hH⟩ := h.map
 have ni : I64 (i : Int) := zec (by omega) (by omega)
 have ng : I64 ((g : Int) + 1) := zec (by omega) (by omega)
 obtain ⟨W5, hW5⟩ : ∃ W5, W5 = ((((W.setCell ⟨rb, 1, none⟩ (.slice (some ⟨fb, 0, none⟩) m fc)).setCell ⟨gb, i, none⟩ (.int .i64 ((g : Int) + 1))).alloc (.cells #[.int .i64 0, .int .i64 0] 144)).alloc (.cells #[.int .i64 i, .int .i64 ((g : Int) + 1)] 144)) := ⟨_, rfl⟩
 obtain ⟨W1, hW1⟩ : ∃ W1, W1 = ((W.setCell ⟨rb, 1, none⟩ (.slice (some ⟨fb, 0, none⟩) m fc)).setCell ⟨gb, i, none⟩ (.int .i64 ((g : Int) + 1))) := ⟨_, rfl⟩
 have z1 : W1.heap.size = W.heap.size := by rw [hW1]; simp
 have D1 : W1.ownsMap Tryz.prog 144 (unitElem (H := Unit)) mb t D := by rw [hW1]; exact (hD.setCell (fun e => h.zgh e.symm) _).setCell (fun e => h.z6m e.symm) _
 have hW5' : W5 = (W1.alloc (.cells #[.int .i64 0, .int .i64 0] 144)).alloc (.cells #[.int .i64 i, .int .i64 ((g : Int) + 1)] 144) := by rw [hW5, hW1]
 have b15 : Below W1.heap.size W1 W5 := by rw [hW5']; exact ((Below.refl _ _).alloc (Nat.le_refl _) _).alloc (by simp) _
 have D5 : W5.ownsMap Tryz.prog 144 (unitElem (H := Unit)) mb t D := by rw [hW5']; exact (D1.alloc _).alloc _
 obtain ⟨w6, hmu, hD6, ht6⟩ := D5.drew.store zco Tryz.underlying239 (by unfold maxLen; omega) (zdg i ((g : Int) + 1) ni ng) (unitElem_mk (H := Unit))
 unfold entV at hmu
 have z5 : W5.heap.size = W.heap.size + 2 := by rw [hW5']; simp [z1]
 have e5 : W5.heap[W.heap.size + 1]? = some (.cells #[.int .i64 i, .int .i64 ((g : Int) + 1)] 144 (0, 0)) := by
  have := heap_alloc_new (W1.alloc (.cells #[.int .i64 0, .int .i64 0] 144)) (.cells #[.int .i64 i, .int .i64 ((g : Int) + 1)] 144)
  rw [hW5', <- z1]; simpa using this
 have r5 : W5.heap[W.heap.size]? = some (.cells #[.int .i64 0, .int .i64 0] 144 (0, 0)) := by
  rw [hW5', <- z1, Below.heap_alloc _ _ _ (by simp)]; exact heap_alloc_new W1 _
 have x5 : W5.heap[rb]? = some (.cells #[.slice (some ⟨gb, 0, none⟩) n n, .slice (some ⟨fb, 0, none⟩) m fc, .map (some mb)] 241 (0, 0)) := by
  rw [b15.block rb (by omega), hW1, Below.heap_setCell _ _ _ _ n1, hn]
  exact heap_setCell_same W rb 1 _ 241 _ h.box
 have lmb : mb < W.heap.size := hD.lt
 have g6 : ∀ k, k < W5.heap.size -> k ≠ mb -> w6.heap[k]? = W5.heap[k]? := fun k hk hne => ht6.grown.block k (by simpa using hk) (by simpa using hne)
 have K5 : Hid (W5.drew.cell? ⟨rb, 2, none⟩ = some (.map (some mb)) /\ W5.drew.cell? ⟨W.heap.size + 1, 0, none⟩ = some (.int .i64 i) /\ W5.drew.cell? ⟨W.heap.size + 1, 1, none⟩ = some (.int .i64 ((g : Int) + 1))) :=
  ⟨zaa (W := W5) x5 rfl, zaa (W := W5) e5 rfl, zaa (W := W5) e5 rfl⟩
 have e6 := (g6 (W.heap.size + 1) (by omega) (by omega)).trans e5
 have r6 := (g6 (W.heap.size) (by omega) (by omega)).trans r5
 have x6 := (g6 rb (by omega) h.zgh).trans x5
 have K6 : Hid (w6.cell? ⟨rb, 2, none⟩ = some (.map (some mb)) /\ w6.cell? ⟨W.heap.size + 1, 0, none⟩ = some (.int .i64 i) /\ w6.cell? ⟨W.heap.size + 1, 1, none⟩ = some (.int .i64 ((g : Int) + 1))) :=
  ⟨zaa x6 rfl, zaa e6 rfl, zaa e6 rfl⟩
 have E6 := hid e6
 have R6 := hid r6
 have HW5 := hid hW5
 have hfin : Hid (∀ W7, W7 = (w6.setCell ⟨W.heap.size, 0, none⟩ (.int .i64 i)).setCell ⟨W.heap.size, 1, none⟩ (.int .i64 ((g : Int) + 1)) -> Rl B W7 rb gb mb (.slice (some ⟨fb, 0, none⟩) f.length fc) (t + 1) (r.took i) /\ St (Ft rb gb mb (.slice (some ⟨fb, 0, none⟩) r.free.length fc)) W W7) := by
  rintro W7 rfl
  refine h.took hf ht ?_ D hD hH ?_
  ·rw [<- hg, <- hm, <- hW1]
   have s1 : St (fun k => k = mb) W1 W5 := St.of_below b15
   have s2' : St (fun k => k = mb) W5.drew w6 := St.zam ht6.grown fun k e => by simpa using e.symm
   have s2 : St (fun k => k = mb) W5 w6 := ⟨s2'.os, s2'.tape, s2'.output, s2'.size, s2'.block⟩
   have s3 : St (fun k => k = W.heap.size) w6 ((w6.setCell ⟨W.heap.size, 0, none⟩ (.int .i64 i)).setCell ⟨W.heap.size, 1, none⟩ (.int .i64 ((g : Int) + 1))) := (St.setCell (S := fun k => k = W.heap.size) (a := w6) (p := ⟨W.heap.size, 0, none⟩) (.int .i64 i) rfl).trans (St.setCell (S := fun k => k = W.heap.size) (p := ⟨W.heap.size, 1, none⟩) (.int .i64 ((g : Int) + 1)) rfl) fun _ _ q => q
   exact (s1.trans s2 fun _ _ q => q).trans s3 fun x hx q => by omega
  rw [<- hg]
  exact (hD6.setCell (by show mb ≠ W.heap.size; omega) _).setCell (by show mb ≠ W.heap.size; omega) _
 clear hD hH D1 D5 hD6 ht6 z1 z5 e5 r5 x5 g6 e6 r6 x6 b15 lmb hW5' ni ng hW1 hW5
 have HM := hid hm
 have HG := hid hg
 have HN := hid hn
 have HF := hid hf
 have HFL := hid hfl
 clear h hf hfl ho hm hg hn
 go_enter Tryz.func152, Tryz.ntmps152
 go_wp2_with fail
 rw [<- HW5.out]
 go_region_held3 (fun W' => W'.cell? ⟨rb, 2, none⟩ = some (.map (some mb)) /\ W'.cell? ⟨W.heap.size + 1, 0, none⟩ = some (.int .i64 i) /\ W'.cell? ⟨W.heap.size + 1, 1, none⟩ = some (.int .i64 ((g : Int) + 1))) (first | exact K5.out | exact K6.out) (fail)
 have d0 := zaa R6.out (j := 0) rfl
 have d1 := zaa R6.out (j := 1) rfl
 have f0 := zac R6.out 0
 have f1 := zac R6.out 1
 clear hmu c0 c1 c2 cf cg
 go_wp2_with fail
 refine bodyPost_ret (v := .tuple #[.agg #[.int .i64 i, .int .i64 ((g : Int) + 1)], .nilIface]) (by simp [results, Tryz.results152, go_sem, d0, d1]) rfl ⟨by rw [HG.out], _, (hfin.out _ rfl).1, rfl, (hfin.out _ rfl).2⟩
theorem zdf : (Tryz.prog.info? 3).map (fun i => (i.zero, i.size, i.bytes)) = some (some (.int .i64 0), 1, 8) := by kernel_rfl
structure Grew (B : Nat) (fv : Value) (l : List Nat) (wc : World) (fv' : Value) (w2 : World) : Prop where
 own : w2.ownsRow B 3 1 fv' l.length (l.map gI)
 st : St (fun x => fv.ownBlock = some x) wc w2
 at' : fv'.ownBlock = fv.ownBlock \/ ∃ x, fv'.ownBlock = some x /\ wc.heap.size <= x
theorem zwm {ops : Array Oper} {o : Oper} {a : Act} {K : Act -> World -> Prop} {Q : Exit -> Act -> World -> Prop} {E : Prop} (hgd : o.guard = none) (s x : Operand)
  (ho : o.op = .call { callee := .builtin .append, args := #[s, x], argTypes := #[68, 68] }) {B rb : Nat} {wc : World} {fv : Value} {f : List Nat} {k : Nat} (hown : wc.ownsRow B 3 1 fv f.length (f.map gI)) (hl : f.length <= 1000) (hB : B <= wc.heap.size)
  {cs : Array Value} (hbox : wc.heap[rb]? = some (.cells cs 241 (0, 0))) (hcs : cs[1]? = some fv) (hne : fv.ownBlock ≠ some rb)
  (hs : a.eval s = fv) (hx : a.eval x = .slice (some ⟨wc.heap.size, 0, none⟩) 1 1)
  (h : ∀ g' cap w2, Grew B fv (f ++ [k]) wc (.slice (some ⟨g', 0, none⟩) (f.length + 1) cap) w2 -> w2.cell? ⟨rb, 1, none⟩ = some fv -> w2.frozen? ⟨rb, 1, none⟩ = false -> K (a.put o.dst (.slice (some ⟨g', 0, none⟩) (f.length + 1) cap)) w2) :
  if Region.wanted o (yielded ops a.tmps) = true then Oper.wp Tryz.prog o a (wc.alloc (.cells #[.int .i64 (k : Int)] 3)).drew K Q else E := by
 obtain ⟨i0, hi, hz0, hz1, hz2⟩ := info_parts zdf
 have hb : Below wc.heap.size wc (wc.alloc (.cells #[.int .i64 (k : Int)] 3)).drew := ((Below.refl _ _).alloc (Nat.le_refl _) _).drew
 have ho2 : (wc.alloc (.cells #[.int .i64 (k : Int)] 3)).drew.ownsRow B 3 1 fv f.length (f.map gI) := hown.alloc _
 have hz : (wc.alloc (.cells #[.int .i64 (k : Int)] 3)).drew.heap.size = wc.heap.size + 1 := by simp
 refine step_append_lies _ hgd s x 68 ho B 3 i0 (.int .i64 0) 1 8 Tryz.underlying68 hi hz0 hz1 hz2 rfl (by decide) fv f.length (f.map gI) hs ho2 ⟨wc.heap.size, 0, none⟩ 1 1 [gI k] hx rfl (fun j u hu => by
  rw [zbx]
  match j, hu with
  | 0, hu =>
   simp at hu
   subst hu
   exact zbz wc _ 3
  | j + 1, hu => simp at hu) (by intro u hu; simp at hu; subst hu; rfl) (by decide) (by unfold maxLen; omega) (by omega) (by omega) (wc.heap.size + 1) hz ?_
 intro g' cap w2 ow hg hat hlt
 have st : St (fun x => fv.ownBlock = some x) wc w2 := (St.of_below hb).trans (St.zam (S := fun x => fv.ownBlock = some x) hg fun k e => e) fun _ _ q => q
 have hbx : w2.heap[rb]? = some (.cells cs 241 (0, 0)) := (st.block rb (Array.getElem?_eq_some_iff.1 hbox).1 hne).trans hbox
 refine h g' cap w2 ⟨?_, st, ?_⟩ (zaa hbx hcs) (zac hbx 1)
 ·have e : (f ++ [k]).length = f.length + 1 := by simp
  rw [e, List.map_append]
  exact ow
 rcases hat with h1 | h1
 ·exact .inl (by rw [h1]; rfl)
 exact .inr ⟨g', rfl, by omega⟩
theorem Rl.gone {B : Nat} {w1 w5 : World} {rb gb mb t : Nat} {fv fv' : Value} {r : RS} {k : Nat} {g : Int} (h : Rl B w1 rb gb mb fv t r) (ha : r.zbo (k : Int) g = true) (hs : St (fun x => x = mb \/ fv.ownBlock = some x) w1 w5)
  (D : DataW Unit) (hD1 : w1.ownsMap Tryz.prog 144 (unitElem (H := Unit)) mb t D) (hH : Holds D r) (hk : I64 (k : Int)) (hg : I64 g) (hD : w5.ownsMap Tryz.prog 144 (unitElem (H := Unit)) mb t (D.del (kl k g)))
  (ho : w5.ownsRow B 3 1 fv' (r.free ++ [k]).length ((r.free ++ [k]).map gI)) (hat : fv'.ownBlock = fv.ownBlock \/ ∃ x, fv'.ownBlock = some x /\ w1.heap.size <= x) :
  Rl B (w5.setCell ⟨rb, 1, none⟩ fv') rb gb mb fv' t (r.freed k) /\ St (Ft rb gb mb fv) w1 (w5.setCell ⟨rb, 1, none⟩ fv') := by
 have l1 : rb < w1.heap.size := (h.lt rb (.inl rfl)).2
 have l2 : gb < w1.heap.size := (h.lt gb (.inr (.inl rfl))).2
 have hnb : ∀ x, fv'.ownBlock = some x -> x ≠ rb /\ x ≠ gb := fun x hx => by
  rcases hat with h1 | ⟨y, h1, h2⟩
  ·have := h.ne_f x (h1 ▸ hx); exact ⟨this.1, this.2.1⟩
  rw [h1] at hx; simp at hx; omega
 have hnr : ¬ (rb = mb \/ fv.ownBlock = some rb) := fun e => e.elim h.zgh (fun e => (h.ne_f rb e).1 rfl)
 have hng : ¬ (gb = mb \/ fv.ownBlock = some gb) := fun e => e.elim h.z6m h.apart
 have hok : (r.freed k).ok := by have := RS.z3k h.ok ha; simpa using this
 have B5 := (hs.block rb l1 hnr).trans h.box
 have G5 := (hs.block gb l2 hng).trans h.gens
 refine ⟨⟨?_, ?_, ?_, ?_, hok, h.small, h.old, h.low, fun e => (hnb gb e).2 rfl⟩, ?_⟩
 ·exact heap_setCell_same _ rb 1 _ 241 _ B5
 ·exact (Below.heap_setCell _ _ _ _ (fun e => h.z5w e.symm)).trans G5
 ·refine zas ho fun x cur hx hb => ?_
  exact (Below.heap_setCell _ _ _ _ (hnb x hx).1).trans hb
 ·have hH' := hH.freed (hD1.tidy zco) ha hk hg
  simp only [Int.toNat_natCast] at hH'
  exact ⟨_, hD.setCell (fun e => h.zgh e.symm) _, hH'⟩
 exact (St.trans (S := Ft rb gb mb fv) ⟨hs.os, hs.tape, hs.output, hs.size, fun x hx hn => hs.block x hx fun e => hn (e.elim (fun e => .inr (.inr (.inl e))) (fun e => .inr (.inr (.inr e))))⟩ (St.setCell (S := Ft rb gb mb fv) (p := ⟨rb, 1, none⟩) fv' (.inl rfl)) fun _ _ q => q)
set_option maxRecDepth 100000 in
theorem zty {B : Nat} {W : World} {rb gb mb t : Nat} {fv : Value} {r : RS} (h : Rl B W rb gb mb fv t r) (k : Nat) (g : Int) (hi : I64 (k : Int)) (hg : I64 g) (ha : r.zbo (k : Int) g = true) :
  Calls Tryz.prog 155 #[.pointer (some ⟨rb, 0, none⟩), .agg #[.int .i64 (k : Int), .int .i64 g]] W fun e W' => e = .returned .nilIface /\ ∃ fv', Rl B W' rb gb mb fv' t (r.freed k) /\ (fv'.ownBlock = fv.ownBlock \/ ∃ x, fv'.ownBlock = some x /\ W.heap.size <= x) /\ St (Ft rb gb mb fv) W W' := by
 obtain ⟨fa, fc, rfl⟩ := zaf h.free
 have BA : Hid (Below W.heap.size W (W.alloc (.cells #[.int .i64 (k : Int), .int .i64 g] 144))) := (Below.refl _ _).alloc (Nat.le_refl _) _
 have AL := hid (znt (h.later BA.out) (k : Int) g hi hg)
 rw [ha] at AL
 have H := hid h
 have HI := hid hi
 have HG := hid hg
 have HA := hid ha
 have hlB : B <= W.heap.size := by have := h.lt rb (.inl rfl); omega
 clear h hi hg ha
 go_enter Tryz.func155, Tryz.ntmps155
 go_wp2_with fail
 refine AL.out.mono ?_
 rintro e w1 ⟨rfl, hb⟩
 have HB := hid (BA.out.trans (hb.mono BA.out.size))
 have hz1 : W.heap.size < w1.heap.size := by have := hb.size; simp at this; omega
 have EB := hid (zab hb (Nat.le_refl _) (heap_alloc_new W (.cells #[.int .i64 (k : Int), .int .i64 g] 144)))
 clear hb AL
 go_wp2_with fail
 have h1 := H.out.later HB.out
 obtain ⟨D, hD, hH⟩ := h1.map
 obtain ⟨w2, hdel, hD2, ht2⟩ := hD.drew.drop zco Tryz.underlying239 (zdg _ g HI.out HG.out) 0
 unfold entV at hdel
 have s12' : St (fun x => x = mb) w1.drew w2 := St.zam ht2.grown fun k e => by simpa using e.symm
 have s12 : St (fun x => x = mb) w1 w2 := ⟨s12'.os, s12'.tape, s12'.output, s12'.size, s12'.block⟩
 have lmb : mb < W.heap.size := (H.out.lt mb (.inr (.inr (.inl rfl)))).2
 have E2 := (s12.block W.heap.size hz1 (by omega)).trans EB.out
 have X2 := (s12.block rb (h1.lt rb (.inl rfl)).2 h1.zgh).trans h1.box
 have F2 : w2.ownsRow B 3 1 (.slice fa r.free.length fc) r.free.length (r.free.map gI) := zas (h1.free) fun x cur hx hb => (s12.block x (h1.lt x (.inr (.inr (.inr hx)))).2 (h1.ne_f x hx).2.2).trans hb
 have K1 : Hid (w1.drew.cell? ⟨rb, 2, none⟩ = some (.map (some mb)) /\ w1.drew.cell? ⟨W.heap.size, 0, none⟩ = some (.int .i64 (k : Int)) /\ w1.drew.cell? ⟨W.heap.size, 1, none⟩ = some (.int .i64 g)) :=
  ⟨zaa (W := w1) h1.box rfl, zaa (W := w1) EB.out rfl, zaa (W := w1) EB.out rfl⟩
 have K2 : Hid (w2.cell? ⟨rb, 2, none⟩ = some (.map (some mb)) /\ w2.cell? ⟨W.heap.size, 0, none⟩ = some (.int .i64 (k : Int)) /\ w2.cell? ⟨W.heap.size, 1, none⟩ = some (.int .i64 g)) :=
  ⟨zaa X2 rfl, zaa E2 rfl, zaa E2 rfl⟩
 have H1 := hid h1
 have HD1 := hid hD
 have HH := hid hH
 have HD2 := hid hD2
 have S12 := hid s12
 have HF2 := hid F2
 have HX2 := hid X2
 clear h1 hD hH hD2 ht2 s12 s12' F2 X2 E2
 go_region_held3 (fun W' => W'.cell? ⟨rb, 2, none⟩ = some (.map (some mb)) /\ W'.cell? ⟨W.heap.size, 0, none⟩ = some (.int .i64 (k : Int)) /\ W'.cell? ⟨W.heap.size, 1, none⟩ = some (.int .i64 g)) (first | exact K1.out | exact K2.out) (fail)
 clear hdel K1
 go_wp2_with fail
 have k0 := K2.out.2.1
 have x1 := zaa HX2.out (j := 1) rfl
 have hfl : r.free.length <= 1000 := by have := H1.out.few; have := H1.out.small; omega
 have hne : (Value.slice fa r.free.length fc).ownBlock ≠ some rb := fun e => (H1.out.ne_f rb e).1 rfl
 have hB2 : B <= w2.heap.size := by have := S12.out.size; omega
 have hrl : rb < w2.heap.size := World.block_lt_of_cell? w2 _ x1
 have hrn : ¬ (rb = w2.heap.size) := by omega
 clear K2
 go_region_law (refine zwm rfl _ _ rfl HF2.out hfl hB2 HX2.out rfl hne rfl rfl ?_; intro g' cap w5 hgr hx5 hf5)
 all_goals
  have hDD : w5.ownsMap Tryz.prog 144 (unitElem (H := Unit)) mb t (D.del (kl k g)) := by
   have hlt := HD2.out.lt
   obtain ⟨es, cl, hb, q⟩ := HD2.out
   exact ⟨es, cl, (hgr.st.block mb hlt (fun e => (H1.out.ne_f mb e).2.2 rfl)).trans hb, q⟩
  have HAT : Hid ((Value.slice (some ⟨g', 0, none⟩) (r.free.length + 1) cap).ownBlock = (Value.slice fa r.free.length fc).ownBlock \/ ∃ x, (Value.slice (some ⟨g', 0, none⟩) (r.free.length + 1) cap).ownBlock = some x /\ w1.heap.size <= x) := by
   rcases hgr.at' with h | ⟨x, h, h'⟩
   ·exact .inl h
   exact .inr ⟨x, h, Nat.le_trans S12.out.size h'⟩
  have hfin := H1.out.gone (fv' := .slice (some ⟨g', 0, none⟩) (r.free.length + 1) cap) HA.out ((show St (fun x => x = mb \/ (Value.slice fa r.free.length fc).ownBlock = some x) _ _ from ⟨S12.out.os, S12.out.tape, S12.out.output, S12.out.size, fun x hx hn => S12.out.block x hx fun e => hn (.inl e)⟩).trans hgr.st fun _ _ q => .inr q) D HD1.out HH.out HI.out HG.out hDD hgr.own HAT.out
  have HF := hid hfin
  clear hgr hfin hx5 hf5 hDD
  go_wp2_with fail
  go_ret
  refine ⟨rfl, _, HF.out.1, ?_, ?_⟩
  ·rcases HAT.out with h | ⟨x, h, h'⟩
   ·exact .inl h
   exact .inr ⟨x, h, by omega⟩
  exact (St.of_below HB.out).trans HF.out.2 fun _ _ q => q
def RS.fresh (n : Nat) : RS := ⟨List.replicate n 0, (List.range n).reverse⟩
theorem zya (n : Nat) : madeCells (Value.int .i64 0).cells (n * 1) = ((List.replicate n 0).map gI).toArray := by
 apply Array.ext_getElem?
 intro j
 by_cases hj : j < n
 ·simp [madeCells, gI, Value.cells, hj, Nat.mod_one]
 simp [madeCells, gI, Value.cells, hj]
theorem z9o (W : World) (n : Nat) (hn : n <= 64) : (Instr.makeSlice 68 (.int .i64 (n : Int)) (.int .i64 (n : Int))).run Tryz.prog W = .ok (.slice (some ⟨W.heap.size, 0, none⟩) n n) (W.alloc (.cells ((List.replicate n 0).map gI).toArray 3)) := by
 obtain ⟨i0, hi, hz0, hz1, hz2⟩ := info_parts zdf
 have h := run_makeSlice (P := Tryz.prog) W 68 3 i0 (.int .i64 0) Tryz.underlying68 hi hz0 .i64 .i64 (n : Int) (n : Int) (by omega) (by omega) (by rw [hz1]; simp; omega) (by rw [hz2]; omega) (by omega)
 rw [hz1, Int.toNat_natCast, zya] at h
 exact h
theorem zpx {ops : Array Oper} {rest : List Oper} {o : Oper} {a : Act} {Q : Exit -> Act -> World -> Prop} (hgd : o.guard = none) (s x : Operand)
  (ho : o.op = .call { callee := .builtin .append, args := #[s, x], argTypes := #[68, 68] }) {B rb : Nat} {wc : World} {fv : Value} {f : List Nat} {k : Nat} (hown : wc.ownsRow B 3 1 fv f.length (f.map gI)) (hl : f.length <= 1000) (hB : B <= wc.heap.size)
  {cs : Array Value} (hbox : wc.heap[rb]? = some (.cells cs 241 (0, 0))) (hcs : cs[1]? = some fv) (hne : fv.ownBlock ≠ some rb)
  (hs : a.eval s = fv) (hx : a.eval x = .slice (some ⟨wc.heap.size, 0, none⟩) 1 1)
  (h : ∀ g' cap w2, Hid (Grew B fv (f ++ [k]) wc (.slice (some ⟨g', 0, none⟩) (f.length + 1) cap) w2) -> w2.cell? ⟨rb, 1, none⟩ = some fv -> w2.frozen? ⟨rb, 1, none⟩ = false -> wpList Tryz.prog ops Q rest (a.put o.dst (.slice (some ⟨g', 0, none⟩) (f.length + 1) cap)) w2) :
  wpList Tryz.prog ops Q (o :: rest) a (wc.alloc (.cells #[.int .i64 (k : Int)] 3)) := by
 obtain ⟨i0, hi, hz0, hz1, hz2⟩ := info_parts zdf
 have hb : Below wc.heap.size wc (wc.alloc (.cells #[.int .i64 (k : Int)] 3)) := (Below.refl _ _).alloc (Nat.le_refl _) _
 have ho2 : (wc.alloc (.cells #[.int .i64 (k : Int)] 3)).ownsRow B 3 1 fv f.length (f.map gI) := hown.alloc _
 have hz : (wc.alloc (.cells #[.int .i64 (k : Int)] 3)).heap.size = wc.heap.size + 1 := by simp
 refine wpList_append_lies _ hgd s x 68 ho B 3 i0 (.int .i64 0) 1 8 Tryz.underlying68 hi hz0 hz1 hz2 rfl (by decide) fv f.length (f.map gI) hs ho2 ⟨wc.heap.size, 0, none⟩ 1 1 [gI k] hx rfl (fun j u hu => by
  rw [zbx]
  match j, hu with
  | 0, hu =>
   simp at hu
   subst hu
   exact zbz wc _ 3
  | j + 1, hu => simp at hu) (by intro u hu; simp at hu; subst hu; rfl) (by decide) (by unfold maxLen; omega) (by omega) (by omega) (wc.heap.size + 1) hz ?_
 intro g' cap w2 ow hg hat hlt
 have st : St (fun x => fv.ownBlock = some x) wc w2 := (St.of_below hb).trans (St.zam (S := fun x => fv.ownBlock = some x) hg fun k e => e) fun _ _ q => q
 have hbx : w2.heap[rb]? = some (.cells cs 241 (0, 0)) := (st.block rb (Array.getElem?_eq_some_iff.1 hbox).1 hne).trans hbox
 refine h g' cap w2 ⟨?_, st, ?_⟩ (zaa hbx hcs) (zac hbx 1)
 ·have e : (f ++ [k]).length = f.length + 1 := by simp
  rw [e, List.map_append]
  exact ow
 rcases hat with h1 | h1
 ·exact .inl (by rw [h1]; rfl)
 exact .inr ⟨g', rfl, by omega⟩
structure Mk (B : Nat) (W : World) (rb gb mb n : Nat) (fv : Value) (l : List Nat) (wr : World) : Prop where
 box : wr.heap[rb]? = some (.cells #[.slice (some ⟨gb, 0, none⟩) n n, fv, .map (some mb)] 241 (0, 0))
 gens : wr.heap[gb]? = some (.cells ((List.replicate n 0).map gI).toArray 3 (0, 0))
 free : wr.ownsRow B 3 1 fv l.length (l.map gI)
 map : wr.ownsMap Tryz.prog 144 (unitElem (H := Unit)) mb 0 (.map [])
 low : B <= rb /\ B <= gb /\ B <= mb
 apart : ∀ x, fv.ownBlock = some x -> x ≠ rb /\ x ≠ gb /\ x ≠ mb
 three : rb ≠ gb /\ rb ≠ mb
 bel : Below B W wr
theorem Mk.next {B : Nat} {W wr w2 : World} {rb gb mb n k : Nat} {fv fv' : Value} {l : List Nat} (h : Mk B W rb gb mb n fv l wr) (hB : B <= wr.heap.size) (g : Grew B fv (l ++ [k]) wr fv' w2) : Mk B W rb gb mb n fv' (l ++ [k]) (w2.setCell ⟨rb, 1, none⟩ fv') := by
 have lt := fun {k : Nat} {o : Obj} (h : wr.heap[k]? = some o) => (Array.getElem?_eq_some_iff.1 h).1
 have l1 := lt h.box
 have l2 := lt h.gens
 have l3 := h.map.lt
 have hap : ∀ x, fv'.ownBlock = some x -> x ≠ rb /\ x ≠ gb /\ x ≠ mb := fun x hx => by
  rcases g.at' with h1 | ⟨y, h1, h2⟩
  ·exact h.apart x (h1 ▸ hx)
  rw [h1] at hx; simp at hx; omega
 refine ⟨?_, ?_, ?_, ?_, h.low, hap, h.three, ?_⟩
 ·exact heap_setCell_same _ rb 1 _ 241 _ ((g.st.block rb l1 fun e => (h.apart rb e).1 rfl).trans h.box)
 ·exact (Below.heap_setCell _ _ _ _ (fun e => h.three.1 e.symm)).trans ((g.st.block gb l2 fun e => (h.apart gb e).2.1 rfl).trans h.gens)
 ·exact zas g.own fun x cur hx hb => (Below.heap_setCell _ _ _ _ (hap x hx).1).trans hb
 ·obtain ⟨es, cl, hb, q⟩ := h.map
  refine World.ownsMap.setCell (a := ⟨rb, 1, none⟩) ⟨es, cl, (g.st.block mb l3 fun e => (h.apart mb e).2.2 rfl).trans hb, q⟩ (fun e => h.three.2 e.symm) _
 have s1 : Below B wr w2 := g.st.below (fun x hx => (h.free.lt x hx).1) hB
 exact (h.bel.trans s1).setCell h.low.1 _
theorem zuu (n q : Nat) (h : q < n) : ((List.range n).drop q).reverse = ((List.range n).drop (q + 1)).reverse ++ [q] := by
 rw [List.drop_eq_getElem_cons (by simpa using h), List.reverse_cons]
 simp
theorem Mk.roll {W wr : World} {rb gb mb n : Nat} {fv : Value} (h : Mk W.heap.size W rb gb mb n fv (List.range n).reverse wr) (hn : n <= 64) : Rl W.heap.size wr rb gb mb fv 0 (RS.fresh n) := by
 refine ⟨?_, h.gens, h.free, ⟨_, h.map, ?_, ?_⟩, ⟨?_, ?_⟩, ?_, ?_, h.low, fun e => (h.apart gb e).2.1 rfl⟩
 ·simpa [RS.fresh] using h.box
 ·intro i g _ _
  have : (RS.fresh n).zbo i g = false := by
   rw [Bool.eq_false_iff]
   intro ha
   obtain ⟨_, _, c, d⟩ := (RS.zbf _ _ _).1 ha
   have := (List.getElem?_eq_some_iff.1 d).1
   exact c (by simpa [RS.fresh] using this)
  rw [this]
  rfl
 ·simp [RS.fresh, Maps.size]
 ·exact (List.reverse_perm (List.range n)).nodup_iff.2 List.nodup_range
 ·intro i hi
  simpa [RS.fresh] using hi
 ·simpa [RS.fresh] using hn
 intro g hg
 simp [RS.fresh] at hg
 omega
set_option maxRecDepth 100000 in
theorem zls (W : World) (n : Nat) (hn : n <= 64) :
  Calls Tryz.prog 87 #[.int .i64 (n : Int)] W fun e W' => ∃ rb gb mb fv, e = .returned (.tuple #[.pointer (some ⟨rb, 0, none⟩), .nilIface]) /\ Rl W.heap.size W' rb gb mb fv 0 (RS.fresh n) /\ Below W.heap.size W W' := by
 have h0 : ¬ ((n : Int) < 0) := by omega
 have h1 : ¬ (64 < (n : Int)) := by omega
 have h2 : (n : Int) <= 64 := by omega
 have hmk := z9o W n hn
 have hmm := run_makeMap (P := Tryz.prog) 239
 have M0 : Hid (Mk W.heap.size W (W.heap.size + 2) W.heap.size (W.heap.size + 1) n (.slice none 0 0) [] (((W.alloc (.cells ((List.replicate n 0).map gI).toArray 3)).alloc (.map #[] 0)).alloc (.cells #[.slice (some ⟨W.heap.size, 0, none⟩) n n, .slice none 0 0, .map (some (W.heap.size + 1))] 241))) := by
  generalize hcs : ((List.replicate n 0).map gI).toArray = cs at *
  refine ⟨?_, ?_, World.ownsRow_nil _ _ _ _, ?_, by omega, fun x hx => by simp [Value.ownBlock] at hx, by omega, ?_⟩
  ·have := heap_alloc_new ((W.alloc (.cells cs 3)).alloc (.map #[] 0)) (.cells #[.slice (some ⟨W.heap.size, 0, none⟩) n n, .slice none 0 0, .map (some (W.heap.size + 1))] 241)
   simpa using this
  ·rw [Below.heap_alloc _ _ _ (by simp; omega), Below.heap_alloc _ _ _ (by simp), hcs]
   exact heap_alloc_new W _
  ·have := World.ownsMap_made (W.alloc (.cells cs 3)) Tryz.prog 144 (unitElem (H := Unit))
   rw [World.size_alloc] at this
   exact this.alloc _
  exact (((Below.refl _ _).alloc (Nat.le_refl _) _).alloc (by simp) _).alloc (by simp; omega) _
 generalize ((List.replicate n 0).map gI).toArray = cs at *
 go_enter Tryz.func87, Tryz.ntmps87
 go_wp2_with fail
 go_loopw [5] (fun i wr => ∃ (j : Nat) (z : Int), j <= n /\ Hid (z = (j : Int) - 1) /\ i = .int .i64 z /\ ∃ fv, Hid (Mk W.heap.size W (W.heap.size + 2) W.heap.size (W.heap.size + 1) n fv ((List.range n).drop j).reverse wr)) (fun i _ => (intOf i + 1).toNat)
 case atStart => exact ⟨n, _, Nat.le_refl _, rfl, rfl, _, by rw [List.drop_of_length_le (by simp)]; exact M0.out⟩
 case round =>
  obtain ⟨j, z, hj, HZ, rfl, fv, HM⟩ := hrel
  clear hmk hmm M0
  by_cases hlt : 0 < j
  ·obtain ⟨q, rfl⟩ : ∃ q, j = q + 1 := ⟨j - 1, by omega⟩
   obtain rfl : z = (q : Int) := by have := HZ.out; omega
   clear HZ
   have hqi : (0 : Int) <= (q : Int) := by omega
   have hq64 : (q : Int) <= 64 := by omega
   have hfl : ((List.range n).drop (q + 1)).reverse.length <= 1000 := by simp; omega
   have x1 := zaa HM.out.box (j := 1) rfl
   have hrl : W.heap.size + 2 < wr.heap.size := World.block_lt_of_cell? wr _ x1
   have hrn : ¬ (W.heap.size + 2 = wr.heap.size) := by omega
   have RD := hid (zuu n q (by omega))
   obtain ⟨l, hl⟩ : ∃ l, l = ((List.range n).drop (q + 1)).reverse := ⟨_, rfl⟩
   rw [<- hl] at HM hfl RD
   clear hl
   obtain ⟨fa, fc, rfl⟩ := zaf HM.out.free
   go_wp2_with (at_builtin; refine zpx rfl _ _ rfl HM.out.free hfl (by omega) HM.out.box rfl (fun e => (HM.out.apart _ e).1 rfl) rfl rfl ?_; intro g' cap w2 hgr hx5 hf5)
   exact ⟨⟨q, _, by omega, rfl, rfl, _, by rw [RD.out]; exact HM.out.next (by omega) hgr.out⟩, by simp [intOf]⟩
  obtain rfl : j = 0 := by omega
  obtain rfl : z = -1 := by have := HZ.out; omega
  clear HZ
  go_wp2_with fail
  go_ret2
  have hM := HM.out
  rw [List.drop_zero] at hM
  exact ⟨_, _, _, _, rfl, hM.roll hn, hM.bel⟩
def zae (l : List (Nat × Nat)) : List Value := l.flatMap fun p => [gI p.1, gI p.2]
theorem zdm (l : List (Nat × Nat)) : (zae l).length = l.length * 2 := by
 induction l with
 | nil => rfl
 | cons x l ih => simp only [zae, List.flatMap_cons, List.length_append, List.length_cons, List.length_nil] at ih ⊢; omega
theorem zgf (l : List (Nat × Nat)) (p : Nat × Nat) : zae (l ++ [p]) = zae l ++ [gI p.1, gI p.2] := by simp [zae]
theorem zyq : (Tryz.prog.info? 144).map (fun i => (i.zero, i.size, i.bytes)) = some (some (.agg #[.int .i64 0, .int .i64 0]), 2, 16) := by kernel_rfl
def Ents (B : Nat) (W : World) (v : Value) (l : List (Nat × Nat)) : Prop := W.ownsRow B 144 2 v l.length (zae l)
def Rol (B : Nat) (W : World) (rb t : Nat) (r : RS) (S : Nat -> Prop) : Prop := ∃ gb mb fv, Rl B W rb gb mb fv t r /\ ∀ k, S k ↔ Ft rb gb mb fv k
section
variable {B : Nat} {W W' : World} {rb t : Nat} {r : RS} {S : Nat -> Prop}
theorem Rol.kept {T : Nat -> Prop} (h : Rol B W rb t r S) (hs : St T W W') (hd : ∀ k, S k -> ¬ T k) : Rol B W' rb t r S := by
 obtain ⟨gb, mb, fv, h1, h2⟩ := h
 exact ⟨gb, mb, fv, h1.kept hs fun k hk => hd k ((h2 k).2 hk), h2⟩
theorem Rol.later (h : Rol B W rb t r S) (hb : Below W.heap.size W W') : Rol B W' rb t r S := h.kept (T := fun _ => False) (St.of_below hb) fun _ _ q => q
theorem Rol.lt (h : Rol B W rb t r S) (k : Nat) (hk : S k) : B <= k /\ k < W.heap.size := by
 obtain ⟨gb, mb, fv, h1, h2⟩ := h
 exact h1.lt k ((h2 k).1 hk)
theorem Rol.ok (h : Rol B W rb t r S) : r.ok := by obtain ⟨gb, mb, fv, h1, h2⟩ := h; exact h1.ok
theorem Rol.small (h : Rol B W rb t r S) : r.gens.length <= 64 := by obtain ⟨gb, mb, fv, h1, h2⟩ := h; exact h1.small
theorem Rol.old (h : Rol B W rb t r S) : ∀ g ∈ r.gens, g <= t := by obtain ⟨gb, mb, fv, h1, h2⟩ := h; exact h1.old
theorem z9i (W : World) (n : Nat) (hn : n <= 64) :
  Calls Tryz.prog 87 #[.int .i64 (n : Int)] W fun e W' => ∃ rb S, e = .returned (.tuple #[.pointer (some ⟨rb, 0, none⟩), .nilIface]) /\ Rol W.heap.size W' rb 0 (RS.fresh n) S /\ Below W.heap.size W W' := by
 refine (zls W n hn).mono ?_
 rintro e w ⟨rb, gb, mb, fv, rfl, h, hb⟩
 exact ⟨rb, _, rfl, ⟨gb, mb, fv, h, fun _ => Iff.rfl⟩, hb⟩
theorem z3t {f : List Nat} {i : Nat} (h : Rol B W rb t r S) (hf : r.free = f ++ [i]) (ht : t <= 1000) :
  Calls Tryz.prog 152 #[.pointer (some ⟨rb, 0, none⟩)] W fun e W' => e = .returned (.tuple #[.agg #[.int .i64 i, .int .i64 ((r.gens.getD i 0 : Nat) + 1 : Int)], .nilIface]) /\ Rol B W' rb (t + 1) (r.took i) S /\ St S W W' := by
 obtain ⟨gb, mb, fv, h1, h2⟩ := h
 refine (zzf h1 hf ht).mono ?_
 rintro e w ⟨rfl, fv', h3, h4, h5⟩
 refine ⟨rfl, ⟨gb, mb, fv', h3, fun k => ?_⟩, ⟨h5.os, h5.tape, h5.output, h5.size, fun k hk hn => h5.block k hk fun q => hn ((h2 k).2 q)⟩⟩
 rw [h2 k]
 unfold Ft
 rw [h4]
theorem z1w (Ad : Nat -> Addr) (h : Rol B W rb t r S) (hE : Env4 W Ad) (hf : r.free = []) :
  Calls Tryz.prog 152 #[.pointer (some ⟨rb, 0, none⟩)] W fun e W' => ∃ b, e = .returned (.tuple #[.agg #[.int .i64 0, .int .i64 0], .iface 159 (.pointer (some ⟨b, 0, none⟩))]) /\ W.heap.size <= b /\ z1c Ad W' (.iface 159 (.pointer (some ⟨b, 0, none⟩))) z8z 6 /\ Below W.heap.size W W' := by
 obtain ⟨gb, mb, fv, h1, h2⟩ := h
 exact zwx Ad h1 hE hf
theorem z0m (h : Rol B W rb t r S) (i g : Int) (hi : I64 i) (hg : I64 g) :
  Calls Tryz.prog 156 #[.pointer (some ⟨rb, 0, none⟩), .agg #[.int .i64 i, .int .i64 g]] W fun e W' => e = .returned (.bool (r.zbo i g)) /\ Below W.heap.size W W' := by
 obtain ⟨gb, mb, fv, h1, h2⟩ := h
 exact znt h1 i g hi hg
theorem z1i (h : Rol B W rb t r S) (k : Nat) (g : Int) (hi : I64 (k : Int)) (hg : I64 g) (ha : r.zbo (k : Int) g = true) :
  Calls Tryz.prog 155 #[.pointer (some ⟨rb, 0, none⟩), .agg #[.int .i64 (k : Int), .int .i64 g]] W fun e W' => e = .returned .nilIface /\ ∃ S', Rol B W' rb t (r.freed k) S' /\ St S W W' /\ ∀ x, S' x -> S x \/ W.heap.size <= x := by
 obtain ⟨gb, mb, fv, h1, h2⟩ := h
 refine (zty h1 k g hi hg ha).mono ?_
 rintro e w ⟨rfl, fv', h3, h4, h5⟩
 refine ⟨rfl, _, ⟨gb, mb, fv', h3, fun _ => Iff.rfl⟩, ⟨h5.os, h5.tape, h5.output, h5.size, fun k hk hn => h5.block k hk fun q => hn ((h2 k).2 q)⟩, fun x hx => ?_⟩
 rcases hx with hx | hx | hx | hx
 ·exact .inl ((h2 x).2 (.inl hx))
 ·exact .inl ((h2 x).2 (.inr (.inl hx)))
 ·exact .inl ((h2 x).2 (.inr (.inr (.inl hx))))
 rcases h4 with h4 | ⟨y, h4, h6⟩
 ·exact .inl ((h2 x).2 (.inr (.inr (.inr (h4 ▸ hx)))))
 rw [h4] at hx; simp at hx; exact .inr (by omega)
theorem zxm (h : Rol B W rb t r S) : Calls Tryz.prog 110 #[.pointer (some ⟨rb, 0, none⟩)] W fun e W' => e = .returned (.int .i64 (r.count : Int)) /\ W' = W := by
 obtain ⟨gb, mb, fv, h1, h2⟩ := h
 exact zji h1
end
end Ro
namespace Rs
open Go.RowKit Go.Shelf Go.Maps
open At (St bAl zaa)
structure Prt where
 c : Int
 v0 : Int
 v1 : Int
 v2 : Int
 v3 : Int
 t : Int
def Prt.arr (p : Prt) : Array Value := #[.int .i64 p.c, .int .i64 p.v0, .int .i64 p.v1, .int .i64 p.v2, .int .i64 p.v3, .int .i64 p.t]
def Prt.val (p : Prt) : Value := .agg #[.int .i64 p.c, .int .i64 p.v0, .int .i64 p.v1, .int .i64 p.v2, .int .i64 p.v3, .int .i64 p.t]
def Prt.zero : Prt := ⟨0, 0, 0, 0, 0, 0⟩
def zbh (l : List Prt) : List Value := l.flatMap fun p => p.arr.toList
theorem zfs (l : List Prt) (p : Prt) : zbh (l ++ [p]) = zbh l ++ p.arr.toList := by simp [zbh]
theorem zyo : ∀ (l : List Prt) (j : Nat) (p : Prt), l[j]? = some p -> ∀ i, i < 6 -> (zbh l)[j * 6 + i]? = p.arr[i]? := by
 intro l
 induction l with
 | nil => intro j p h; simp at h
 | cons x l ih =>
  intro j p h i hi
  have e : zbh (x :: l) = x.arr.toList ++ zbh l := by simp [zbh]
  rw [e]
  cases j with
  | zero =>
   simp at h
   subst h
   rw [List.getElem?_append_left (by simp [Prt.arr]; omega)]
   simp
  | succ j =>
   have h2 := ih j p (by simpa using h) i hi
   rw [List.getElem?_append_right (by simp [Prt.arr]; omega), <- h2]
   congr 1
   simp [Prt.arr]
   omega
theorem zmv : (Tryz.prog.info? 89).map (fun i => (i.zero, i.size, i.bytes)) = some (some (.agg #[.int .i64 0, .int .i64 0, .int .i64 0, .int .i64 0, .int .i64 0, .int .i64 0]), 6, 48) := by kernel_rfl
def Prts (B : Nat) (W : World) (v : Value) (l : List Prt) : Prop := W.ownsRow B 89 6 v l.length (zbh l)
theorem Prts.slice {B : Nat} {W : World} {v : Value} {l : List Prt} (h : Prts B W v l) : ∃ a c, v = .slice a l.length c := zaf h
theorem Prts.kept {B : Nat} {W W' : World} {v : Value} {l : List Prt} {T : Nat -> Prop} (h : Prts B W v l) (hs : St T W W') (hn : ∀ x, v.ownBlock = some x -> ¬ T x) : Prts B W' v l := by
 refine ⟨h.1, h.2.elim .inl fun ⟨g, cap, cur, h1, h2, h3, h4⟩ => .inr ⟨g, cap, cur, h1, h2, ?_, h4⟩⟩
 exact hs.at h3 (hn g (by rw [h1]; rfl))
theorem Prts.later {B : Nat} {W W' : World} {v : Value} {l : List Prt} (h : Prts B W v l) (hb : Below W.heap.size W W') : Prts B W' v l := h.kept (T := fun _ => False) (St.of_below hb) fun _ _ q => q
theorem Prts.lt {B : Nat} {W : World} {v : Value} {l : List Prt} (h : Prts B W v l) (k : Nat) (hk : v.ownBlock = some k) : B <= k /\ k < W.heap.size := World.ownsRow.lt h k hk
theorem Prts.lower {B B' : Nat} {W : World} {v : Value} {l : List Prt} (h : Prts B W v l) (hB : B' <= B) : Prts B' W v l :=
 ⟨h.1, h.2.elim .inl fun ⟨g, cap, cur, h1, h2, h3⟩ => .inr ⟨g, cap, cur, h1, by omega, h3⟩⟩
structure Six (W : World) (b o : Nat) (p : Prt) : Prop where
 c0 : W.cell? ⟨b, o, none⟩ = some (.int .i64 p.c)
 c1 : W.cell? ⟨b, o + 1, none⟩ = some (.int .i64 p.v0)
 c2 : W.cell? ⟨b, o + 2, none⟩ = some (.int .i64 p.v1)
 c3 : W.cell? ⟨b, o + 3, none⟩ = some (.int .i64 p.v2)
 c4 : W.cell? ⟨b, o + 4, none⟩ = some (.int .i64 p.v3)
 c5 : W.cell? ⟨b, o + 5, none⟩ = some (.int .i64 p.t)
theorem Six.later {W W' : World} {b o : Nat} {p : Prt} (h : Six W b o p) (hb : Below W.heap.size W W') : Six W' b o p :=
 ⟨At.seen hb (Nat.le_refl _) h.c0, At.seen hb (Nat.le_refl _) h.c1, At.seen hb (Nat.le_refl _) h.c2, At.seen hb (Nat.le_refl _) h.c3, At.seen hb (Nat.le_refl _) h.c4, At.seen hb (Nat.le_refl _) h.c5⟩
theorem zyg {W : World} {b : Nat} {p : Prt} {e : TypeId} (h : W.heap[b]? = some (.cells p.arr e (0, 0))) : Six W b 0 p :=
 ⟨zaa h rfl, zaa h rfl, zaa h rfl, zaa h rfl, zaa h rfl, zaa h rfl⟩
def PRow (W : World) (v : Value) (l : List Prt) : Prop := ∃ a c, v = .slice a l.length c /\ (l = [] \/ ∃ b o, a = some ⟨b, o, none⟩ /\ ∀ (j : Nat) p, l[j]? = some p -> Six W b (o + j * 6) p)
theorem PRow.later {W W' : World} {v : Value} {l : List Prt} (h : PRow W v l) (hb : Below W.heap.size W W') : PRow W' v l := by
 obtain ⟨a, c, h1, h2⟩ := h
 refine ⟨a, c, h1, ?_⟩
 rcases h2 with h2 | ⟨b, o, h2, h3⟩
 ·exact .inl h2
 exact .inr ⟨b, o, h2, fun j p hj => (h3 j p hj).later hb⟩
theorem Prts.row {B : Nat} {W : World} {v : Value} {l : List Prt} (h : Prts B W v l) : PRow W v l := by
 obtain ⟨a, c, rfl⟩ := h.slice
 refine ⟨a, c, rfl, ?_⟩
 by_cases h0 : l = []
 ·exact .inl h0
 obtain ⟨g, rfl⟩ : ∃ g, a = some ⟨g, 0, none⟩ := by
  obtain ⟨g, cap', e, h1, h2⟩ := World.ownsRow.form h (List.length_pos_iff.2 h0)
  simp only [Value.slice.injEq, true_and] at e
  exact ⟨g, e.1⟩
 refine .inr ⟨g, 0, rfl, fun j p hj => ?_⟩
 have hlt := (List.getElem?_eq_some_iff.1 hj).1
 have A := zyo l j p hj
 have C : ∀ i, i < 6 -> W.cell? ⟨g, j * 6 + i, none⟩ = p.arr[i]? := fun i hi => (World.ownsRow.cellAt h (j * 6 + i) (by omega)).trans (A i hi)
 rw [Nat.zero_add]
 exact ⟨C 0 (by decide), C 1 (by decide), C 2 (by decide), C 3 (by decide), C 4 (by decide), C 5 (by decide)⟩
theorem PRow.at {W : World} {a : Option Addr} {c : Nat} {l : List Prt} (h : PRow W (.slice a l.length c) l) {j : Nat} {p : Prt} (hj : l[j]? = some p) : ∃ b o, a = some ⟨b, o, none⟩ /\ Six W b (o + j * 6) p := by
 obtain ⟨a', c', h1, h2⟩ := h
 obtain ⟨rfl, rfl⟩ : a = a' /\ c = c' := by simpa using h1
 rcases h2 with h2 | ⟨b, o, h2, h3⟩
 ·rw [h2] at hj; simp at hj
 exact ⟨b, o, h2, h3 j p hj⟩
theorem znn (W : World) : Prts W.heap.size (W.alloc (.cells #[] 89)) (.slice (some ⟨W.heap.size, 0, none⟩) 0 0) [] :=
 World.ownsRow_lit (base := W.heap.size) (e := 89) (size := 6) W #[] 0 (Nat.le_refl _) (Nat.zero_le _) rfl
theorem zbm {ops : Array Oper} {rest : List Oper} {o : Oper} {a : Act} {Q : Exit -> Act -> World -> Prop} (hgd : o.guard = none) (s x : Operand)
  (ho : o.op = .call { callee := .builtin .append, args := #[s, x], argTypes := #[84, 84] }) {B : Nat} {wc : World} {v : Value} {l : List Prt} {p : Prt} (hown : Prts B wc v l) (hl : l.length <= 1000) (hB : B <= wc.heap.size)
  (hs : a.eval s = v) (hx : a.eval x = .slice (some ⟨wc.heap.size, 0, none⟩) 1 1)
  (h : ∀ v' w2, Hid (Prts B w2 v' (l ++ [p])) -> Hid (St (fun x => v.ownBlock = some x) wc w2) -> wpList Tryz.prog ops Q rest (a.put o.dst v') w2) :
  wpList Tryz.prog ops Q (o :: rest) a (wc.alloc (.cells #[.int .i64 p.c, .int .i64 p.v0, .int .i64 p.v1, .int .i64 p.v2, .int .i64 p.v3, .int .i64 p.t] 89)) := by
 obtain ⟨i0, hi, hz0, hz1, hz2⟩ := info_parts zmv
 have hb := bAl wc (.cells p.arr 89)
 have ho2 : (wc.alloc (.cells p.arr 89)).ownsRow B 89 6 v l.length (zbh l) := World.ownsRow.alloc hown _
 have hh := heap_alloc_new wc (.cells p.arr 89)
 refine wpList_append_lies _ hgd s x 84 ho B 89 i0 (.agg #[.int .i64 0, .int .i64 0, .int .i64 0, .int .i64 0, .int .i64 0, .int .i64 0]) 6 48 Tryz.underlying84 hi hz0 hz1 hz2 rfl (by decide) v l.length (zbh l) hs ho2 ⟨wc.heap.size, 0, none⟩ 1 1 p.arr.toList hx rfl (fun j u hu => by
  rw [zbx]
  exact zaa hh (by simpa using hu)) (by intro u hu; simp [Prt.arr] at hu; rcases hu with rfl | rfl | rfl | rfl | rfl | rfl <;> rfl) (by decide) (by unfold maxLen; omega) (by omega) (by simp; omega) (wc.heap.size + 1) (by simp) ?_
 intro g' cap w2 ow hg hat hlt
 refine h _ w2 ?_ ((St.of_below hb).trans (St.zam (S := fun x => v.ownBlock = some x) hg fun k e => e) fun _ _ q => q)
 show World.ownsRow _ _ _ _ _ _ _
 rw [zfs, List.length_append]
 exact ow
def ix (l : List Prt) (comp : Int) : Nat := l.findIdx fun p => p.c == comp
def ixI (l : List Prt) (comp : Int) : Int := if ix l comp < l.length then (ix l comp : Int) else -1
theorem ybs {l : List Prt} {comp : Int} {k : Nat} {p : Prt} (hk : k <= ix l comp) (hp : l[k]? = some p) (hc : p.c = comp) : ix l comp = k := by
 obtain ⟨hl, rfl⟩ := List.getElem?_eq_some_iff.1 hp
 refine Nat.le_antisymm (Nat.le_of_not_lt fun q => ?_) hk
 have := List.not_of_lt_findIdx q
 simp [hc] at this
theorem z6r {l : List Prt} {comp : Int} {k : Nat} {p : Prt} (hk : k <= ix l comp) (hp : l[k]? = some p) (hc : ¬ p.c = comp) : k + 1 <= ix l comp := by
 obtain ⟨hl, rfl⟩ := List.getElem?_eq_some_iff.1 hp
 refine Nat.lt_of_le_of_ne hk fun e => ?_
 have hlt : List.findIdx (fun p : Prt => p.c == comp) l < l.length := by show ix l comp < _; omega
 have := List.findIdx_getElem (w := hlt)
 simp only [beq_iff_eq] at this
 have e' : List.findIdx (fun p : Prt => p.c == comp) l = k := e.symm
 simp only [e'] at this
 exact hc this
set_option maxRecDepth 100000 in
theorem zhv (W : World) (v : Value) (l : List Prt) (comp : Int) (h : PRow W v l) (hl : l.length <= 1000) :
  Calls Tryz.prog 104 #[v, .int .i64 comp] W fun e W' => e = .returned (.int .i64 (ixI l comp)) /\ W' = W := by
 have H := hid h
 obtain ⟨a, c, rfl, -⟩ := h
 have hli : (l.length : Int) <= 1000 := by omega
 go_enter Tryz.func104, Tryz.ntmps104
 go_wp2_with fail
 go_loopg [5] l.length (fun gh i wr => ∃ k : Nat, k <= l.length /\ gh = l.length - k /\ i = .int .i64 (k : Int) /\ Hid (k <= ix l comp) /\ wr = W)
 case atStart => exact ⟨0, Nat.zero_le _, rfl, rfl, Nat.zero_le _, rfl⟩
 case round =>
  obtain ⟨k, hk, rfl, rfl, HK, rfl⟩ := hrel
  by_cases hlt : k < l.length
  ·have hki : (k : Int) < (l.length : Int) := by omega
   obtain ⟨p, hp⟩ := zal l k hlt
   obtain ⟨b, o, rfl, six⟩ := H.out.at hp
   have d0 := six.c0
   by_cases hc : p.c = comp
   ·have E := hid (ybs HK.out hp hc)
    have R : Hid (ixI l comp = (k : Int)) := by show _ = _; unfold ixI; rw [E.out, if_pos hlt]
    have q : (p.c == comp) = true := by simp [hc]
    clear hc hp six
    go_wp2_with fail
    go_ret
    exact ⟨by rw [R.out]; rfl, rfl⟩
   have E := hid (z6r HK.out hp hc)
   have q : (p.c == comp) = false := by simp [hc]
   clear hc hp six
   go_wp2_with fail
   go_roundg (l.length - (k + 1))
   case measure => omega
   case rel => exact ⟨k + 1, by omega, rfl, by go_num, E.out, rfl⟩
  have hki : ¬ ((k : Int) < (l.length : Int)) := by omega
  have R : Hid (ixI l comp = -1) := by
   show _ = _
   unfold ixI
   rw [if_neg (by have := HK.out; omega)]
  go_wp2_with fail
  go_ret
  exact ⟨by rw [R.out]; rfl, rfl⟩
def wst (p : Prt) (l : List Prt) : Bool × List Prt := l.foldl (fun s x => if !s.1 && decide (p.c < x.c) then (true, s.2 ++ [p] ++ [x]) else (s.1, s.2 ++ [x])) (false, [])
def insP (l : List Prt) (p : Prt) : List Prt := if (wst p l).1 then (wst p l).2 else (wst p l).2 ++ [p]
theorem z4g (p : Prt) {l : List Prt} {k : Nat} {x : Prt} (h : l[k]? = some x) : wst p (l.take (k + 1)) = if !(wst p (l.take k)).1 && decide (p.c < x.c) then (true, (wst p (l.take k)).2 ++ [p] ++ [x]) else ((wst p (l.take k)).1, (wst p (l.take k)).2 ++ [x]) := by
 obtain ⟨hl, rfl⟩ := List.getElem?_eq_some_iff.1 h
 unfold wst
 rw [List.take_succ_eq_append_getElem hl, List.foldl_append]
 rfl
theorem z7l (p : Prt) (l : List Prt) : (wst p l).2.length = l.length + if (wst p l).1 then 1 else 0 := by
 suffices h : ∀ (l : List Prt) (s : Bool × List Prt), (l.foldl (fun s x => if !s.1 && decide (p.c < x.c) then (true, s.2 ++ [p] ++ [x]) else (s.1, s.2 ++ [x])) s).2.length + (if s.1 then 1 else 0) = s.2.length + l.length + if (l.foldl (fun s x => if !s.1 && decide (p.c < x.c) then (true, s.2 ++ [p] ++ [x]) else (s.1, s.2 ++ [x])) s).1 then 1 else 0 by
  have := h l (false, [])
  unfold wst
  simp only [List.length_nil, Bool.false_eq_true, if_false] at this
  omega
 intro l
 induction l with
 | nil => intro s; simp
 | cons x l ih =>
  intro s
  rw [List.foldl_cons]
  have := ih (if !s.1 && decide (p.c < x.c) then (true, s.2 ++ [p] ++ [x]) else (s.1, s.2 ++ [x]))
  obtain ⟨b, o⟩ := s
  cases b <;> by_cases hc : p.c < x.c <;> simp [hc] at this ⊢ <;> omega
end Rs
end Go.Proofs.YthadfdbkkmmgoaaGreatDoor
