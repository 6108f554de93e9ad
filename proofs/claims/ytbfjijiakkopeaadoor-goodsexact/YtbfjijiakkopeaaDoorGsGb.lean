/- Goods: check, change, Get, Set, Add, Named, Len, Changes. -/
import Derived.Test.YtbfjijiakkopeaaDoorGsGa
namespace Go.Proofs.YtbfjijiakkopeaaDoor.Gs
open Go.RowKit Go.Shelf Go.Maps
open Go.Proofs.YtbfjijiakkopeaaDoor.Sc (memB)
theorem _root_.Go.Proofs.YtbfjijiakkopeaaDoor.Env8.k1 {w : World} {Ad : Nat → Addr} (h : Env8 w Ad) : w.cell? ⟨2, 0, none⟩ = some (.iface 154 (.pointer (some (Ad 1)))) := h.cell 1 (by decide) (by decide)
theorem _root_.Go.Proofs.YtbfjijiakkopeaaDoor.Env8.k2 {w : World} {Ad : Nat → Addr} (h : Env8 w Ad) : w.cell? ⟨0, 0, none⟩ = some (.iface 154 (.pointer (some (Ad 2)))) := h.cell 2 (by decide) (by decide)
theorem _root_.Go.Proofs.YtbfjijiakkopeaaDoor.Env8.k7 {w : World} {Ad : Nat → Addr} (h : Env8 w Ad) : w.cell? ⟨1, 0, none⟩ = some (.iface 154 (.pointer (some (Ad 7)))) := h.cell 7 (by decide) (by decide)
/-- A sentinel inside Blames. -/
def Err (Ad : Nat → Addr) (W : World) (v : Value) (k d : Nat) : Prop := ∃ ws, Chn Ad W.heap.size W d v (ws, k)
theorem Err.later {Ad : Nat → Addr} {W W' : World} {v : Value} {k d : Nat} (h : Err Ad W v k d) (hb : Below W.heap.size W W') : Err Ad W' v k d := by
  obtain ⟨ws, h⟩ := h; exact ⟨ws, h.move hb hb.size⟩
theorem err_leaf (Ad : Nat → Addr) (W : World) (k : Nat) (hk : 1 ≤ k ∧ k ≤ 18) : Err Ad W (.iface 154 (.pointer (some (Ad k)))) k 0 := ⟨[], rfl, hk.1, hk.2, Nat.le_refl _⟩
theorem at_err (Ad : Nat → Addr) (s : ByteArray) (v : Value) (k d : Nat) (w : World) (h : Err Ad w v k d) :
    Calls Tryd.prog 34 #[.string s, v] w fun e w' => ∃ t q, e = .returned (.iface t q) ∧ Err Ad w' (.iface t q) k (d + 1) ∧ Below w.heap.size w w' := by
  obtain ⟨ws, h⟩ := h
  refine (at_chain Ad s d v (ws, k) w h).mono ?_
  rintro e w' ⟨v', rfl, hc, hb⟩
  obtain ⟨t, q, rfl, _⟩ := hc.1.shape
  exact ⟨t, q, rfl, ⟨_, hc⟩, hb⟩
theorem is_err (Ad : Nat → Addr) {W : World} {v : Value} {p k d : Nat} (hE : Env8 W Ad) (h : Err Ad W v p d) (hp : p ∈ eight) (hk : k ∈ eight) :
    Calls Tryd.prog 26 #[v, .iface 154 (.pointer (some (Ad k)))] W fun e W' => e = .returned (.bool (decide (p = k))) ∧ Below W.heap.size W W' := by
  obtain ⟨ws, h⟩ := h
  obtain ⟨t, q, rfl, -⟩ := h.1.shape
  refine is_by Ad k t q _ W ((eis_gen Ad W.heap.size k W ws _ p (hE.sen p hp (eight_le p hp).2) (hE.sen k hk (eight_le k hk).2) (hE.same hp hk) h.1).mono ?_)
  rintro e w' ⟨rfl, rfl⟩
  exact ⟨rfl, Below.refl _ _⟩
/-- The number at a place. -/
def numAt (l : List Int) (i : Int) : Option Int := if 0 ≤ i then l[i.toNat]? else none
theorem numAt_in {l : List Int} {i : Int} {x : Int} (h : numAt l i = some x) : ∃ k : Nat, i = (k : Int) ∧ k < l.length ∧ l[k]? = some x := by
  unfold numAt at h
  split at h
  · rename_i h0
    exact ⟨i.toNat, by omega, (List.getElem?_eq_some_iff.1 h).1, h⟩
  · cases h
theorem numAt_out {l : List Int} {i : Int} (h : numAt l i = none) : i < 0 ∨ (l.length : Int) ≤ i := by
  unfold numAt at h
  split at h
  · rename_i h0
    right
    have := List.getElem?_eq_none_iff.1 h
    omega
  · omega
section
variable {Ad : Nat → Addr} {B : Nat} {W : World} {gb mb : Nat} {v : Value} {ns : List ByteArray} {l : List Int} {n : Nat}
set_option maxHeartbeats 800000 in
theorem check_in (h : Gd B W gb mb v ns l n) (k : Nat) (hk : k < l.length) :
    Calls Tryd.prog 33 #[.pointer (some ⟨gb, 0, none⟩), .int .i64 (k : Int)] W fun e W' => e = .returned .nilIface ∧ W' = W := by
  obtain ⟨a, c, rfl⟩ := h.slice
  have c1 := h.c1
  have h0 : ¬ (k : Int) < 0 := by omega
  have h1 : (k : Int) < (l.length : Int) := by omega
  have h2 : ¬ (l.length : Int) ≤ (k : Int) := by omega
  clear h hk
  go_enter Tryd.func33, Tryd.ntmps33
  go_wp2_with fail
  go_ret
  exact ⟨rfl, rfl⟩
set_option maxHeartbeats 800000 in
theorem check_out (h : Gd B W gb mb v ns l n) (hE : Env8 W Ad) (i : Int) (hi : i < 0 ∨ (l.length : Int) ≤ i) :
    Calls Tryd.prog 33 #[.pointer (some ⟨gb, 0, none⟩), .int .i64 i] W fun e W' => e = .returned (.iface 154 (.pointer (some (Ad 7)))) ∧ W' = W := by
  obtain ⟨a, c, rfl⟩ := h.slice
  have c1 := h.c1
  have c7 := hE.k7
  clear h hE
  by_cases h0 : i < 0
  · clear hi
    go_enter Tryd.func33, Tryd.ntmps33
    go_wp2_with fail
    go_ret
    exact ⟨rfl, rfl⟩
  · have h1 : (l.length : Int) ≤ i := by omega
    have h2 : ¬ i < (l.length : Int) := by omega
    clear hi
    go_enter Tryd.func33, Tryd.ntmps33
    go_wp2_with fail
    go_ret
    exact ⟨rfl, rfl⟩
set_option maxHeartbeats 800000 in
theorem check_nil (hE : Env8 W Ad) (i : Int) :
    Calls Tryd.prog 33 #[.pointer none, .int .i64 i] W fun e W' => e = .returned (.iface 154 (.pointer (some (Ad 2)))) ∧ W' = W := by
  have c2 := hE.k2
  clear hE
  go_enter Tryd.func33, Tryd.ntmps33
  go_wp2_with fail
  go_ret
  exact ⟨rfl, rfl⟩
set_option maxHeartbeats 1600000 in
theorem change_any (h : Gd B W gb mb v ns l n) (hn : n ≤ 1000000) (k : Nat) (x y : Int) (hk : l[k]? = some y) :
    Calls Tryd.prog 35 #[.pointer (some ⟨gb, 0, none⟩), .int .i64 (k : Int), .int .i64 x] W fun e W' => e = .returned (.tuple #[]) ∧ Gd B W' gb mb v ns (l.set k x) (n + 1) ∧ St (Ft gb v) W W' := by
  obtain ⟨g, c, rfl, cg, fg⟩ := h.at hk
  have hlt := (List.getElem?_eq_some_iff.1 hk).1
  have h1 : (k : Int) < (l.length : Int) := by omega
  have c1 := h.c1
  have fb := blk_free h.box 2
  have hne := (h.ne_row (k := g) rfl).1
  obtain ⟨w1, hw1⟩ : ∃ w1, w1 = W.setCell ⟨g, k, none⟩ (.int .i64 x) := ⟨_, rfl⟩
  have s1 : St (fun q => q = g) W w1 := by rw [hw1]; exact St.setCell _ rfl
  have b1 := s1.at h.box hne.symm
  have d2 : w1.cell? ⟨gb, 2, none⟩ = some (.int .i64 (n : Int)) := cell_blk b1 rfl
  have f2 := blk_free b1 2
  have hni : (n : Int) ≤ 1000000 := by omega
  have KK := hid (h.set (i := k) (x := x))
  rw [← hw1] at KK
  have HW1 := hid hw1
  clear h hk hw1 s1 b1 hlt hne
  go_enter Tryd.func35, Tryd.ntmps35
  go_upto_region 1 with fail
  rw [← HW1.out]
  go_wp2_with fail
  go_end0
  exact ⟨rfl, KK.out⟩
set_option maxHeartbeats 800000 in
theorem get_any (h : Gd B W gb mb v ns l n) (hE : Env8 W Ad) (i : Int) :
    Calls Tryd.prog 18 #[.pointer (some ⟨gb, 0, none⟩), .int .i64 i] W fun e W' => e = .returned (.tuple #[.int .i64 ((numAt l i).getD 0), .bool (numAt l i).isSome]) ∧ W' = W := by
  cases hq : numAt l i with
  | none =>
    have C := hid (check_out h hE i (numAt_out hq))
    clear h hE hq
    go_enter Tryd.func18, Tryd.ntmps18
    go_wp2_with fail
    refine C.out.mono ?_
    rintro e w' ⟨rfl, rfl⟩
    go_wp2_with fail
    go_ret2
    exact ⟨rfl, rfl⟩
  | some x =>
    obtain ⟨k, rfl, hk, hx⟩ := numAt_in hq
    have C := hid (check_in h k hk)
    obtain ⟨g, c, rfl, cg, fg⟩ := h.at hx
    have c1 := h.c1
    have h1 : (k : Int) < (l.length : Int) := by omega
    clear h hE hq hx hk
    go_enter Tryd.func18, Tryd.ntmps18
    go_wp2_with fail
    refine C.out.mono ?_
    rintro e w' ⟨rfl, rfl⟩
    go_wp2_with fail
    go_ret2
    exact ⟨rfl, rfl⟩
set_option maxHeartbeats 800000 in
theorem get_nil (hE : Env8 W Ad) (i : Int) :
    Calls Tryd.prog 18 #[.pointer none, .int .i64 i] W fun e W' => e = .returned (.tuple #[.int .i64 0, .bool false]) ∧ W' = W := by
  have C := hid (check_nil hE i)
  clear hE
  go_enter Tryd.func18, Tryd.ntmps18
  go_wp2_with fail
  refine C.out.mono ?_
  rintro e w' ⟨rfl, rfl⟩
  go_wp2_with fail
  go_ret2
  exact ⟨rfl, rfl⟩
set_option maxHeartbeats 1600000 in
theorem set_in (h : Gd B W gb mb v ns l n) (hn : n ≤ 1000000) (k : Nat) (x y : Int) (hk : l[k]? = some y) :
    Calls Tryd.prog 11 #[.pointer (some ⟨gb, 0, none⟩), .int .i64 (k : Int), .int .i64 x] W fun e W' => e = .returned (.tuple #[.int .i64 y, .nilIface]) ∧ Gd B W' gb mb v ns (l.set k x) (n + 1) ∧ St (Ft gb v) W W' := by
  have hlt := (List.getElem?_eq_some_iff.1 hk).1
  have C := hid (check_in h k hlt)
  have CH := hid (change_any h hn k x y hk)
  obtain ⟨g, c, rfl, cg, fg⟩ := h.at hk
  have c1 := h.c1
  have h1 : (k : Int) < (l.length : Int) := by omega
  clear h hk hlt hn
  go_enter Tryd.func11, Tryd.ntmps11
  go_wp2_with fail
  refine C.out.mono ?_
  rintro e w' ⟨rfl, rfl⟩
  go_wp2_with fail
  refine CH.out.mono ?_
  rintro e w1 ⟨rfl, hg, hs⟩
  have HG := hid hg
  have HS := hid hs
  clear hg hs CH C cg fg c1
  go_wp2_with fail
  go_ret2
  exact ⟨rfl, HG.out, HS.out⟩
set_option maxHeartbeats 1600000 in
theorem set_out (h : Gd B W gb mb v ns l n) (hE : Env8 W Ad) (i x : Int) (hi : numAt l i = none) :
    Calls Tryd.prog 11 #[.pointer (some ⟨gb, 0, none⟩), .int .i64 i, .int .i64 x] W fun e W' => ∃ t q, e = .returned (.tuple #[.int .i64 0, .iface t q]) ∧ Err Ad W' (.iface t q) 7 1 ∧ Below W.heap.size W W' := by
  have C := hid (check_out h hE i (numAt_out hi))
  have AC := hid (fun str => at_err Ad str _ 7 0 W (err_leaf Ad W 7 (by decide)))
  clear h hE hi
  go_enter Tryd.func11, Tryd.ntmps11
  go_wp2_with fail
  refine C.out.mono ?_
  rintro e w' ⟨rfl, rfl⟩
  go_wp2_with fail
  refine (AC.out _).mono ?_
  rintro e w1 ⟨t, q, rfl, hv, hb⟩
  have HV := hid hv
  have HB := hid hb
  clear hv hb AC
  go_wp2_with fail
  go_ret2
  exact ⟨t, q, rfl, HV.out, HB.out⟩
set_option maxHeartbeats 1600000 in
theorem set_nil (hE : Env8 W Ad) (i x : Int) :
    Calls Tryd.prog 11 #[.pointer none, .int .i64 i, .int .i64 x] W fun e W' => ∃ t q, e = .returned (.tuple #[.int .i64 0, .iface t q]) ∧ Err Ad W' (.iface t q) 2 1 ∧ Below W.heap.size W W' := by
  have C := hid (check_nil hE i)
  have AC := hid (fun str => at_err Ad str _ 2 0 W (err_leaf Ad W 2 (by decide)))
  clear hE
  go_enter Tryd.func11, Tryd.ntmps11
  go_wp2_with fail
  refine C.out.mono ?_
  rintro e w' ⟨rfl, rfl⟩
  go_wp2_with fail
  refine (AC.out _).mono ?_
  rintro e w1 ⟨t, q, rfl, hv, hb⟩
  have HV := hid hv
  have HB := hid hb
  clear hv hb AC
  go_wp2_with fail
  go_ret2
  exact ⟨t, q, rfl, HV.out, HB.out⟩
set_option maxHeartbeats 1600000 in
theorem add_in (h : Gd B W gb mb v ns l n) (hn : n ≤ 1000000) (k : Nat) (x y : Int) (hk : l[k]? = some y) :
    Calls Tryd.prog 15 #[.pointer (some ⟨gb, 0, none⟩), .int .i64 (k : Int), .int .i64 x] W fun e W' => e = .returned (.tuple #[.int .i64 (wrap64 (y + x)), .nilIface]) ∧ Gd B W' gb mb v ns (l.set k (wrap64 (y + x))) (n + 1) ∧ St (Ft gb v) W W' := by
  have hlt := (List.getElem?_eq_some_iff.1 hk).1
  have C := hid (check_in h k hlt)
  obtain ⟨z, hz⟩ : ∃ z, z = wrap64 (y + x) := ⟨_, rfl⟩
  have CH := hid (change_any h hn k z y hk)
  rw [← hz]
  obtain ⟨g, c, rfl, cg, fg⟩ := h.at hk
  have c1 := h.c1
  have h1 : (k : Int) < (l.length : Int) := by omega
  have hz' := hz.symm
  clear h hk hn hz
  go_enter Tryd.func15, Tryd.ntmps15
  go_wp2_with fail
  refine C.out.mono ?_
  rintro e w' ⟨rfl, rfl⟩
  go_wp2_with fail
  refine CH.out.mono ?_
  rintro e w1 ⟨rfl, hg, hs⟩
  have d1 := hg.c1
  have dg : w1.cell? ⟨g, k, none⟩ = some (.int .i64 z) := by
    obtain ⟨g', c', e, q, -⟩ := hg.at (i := k) (x := z) (by rw [List.getElem?_set_self hlt])
    simp only [Value.slice.injEq, Option.some.injEq, Addr.mk.injEq] at e
    obtain ⟨⟨rfl, -⟩, -⟩ := e
    exact q
  have HG := hid hg
  have HS := hid hs
  clear hg hs CH C cg fg c1 hlt
  go_wp2_with fail
  go_ret2
  exact ⟨rfl, HG.out, HS.out⟩
set_option maxHeartbeats 1600000 in
theorem add_out (h : Gd B W gb mb v ns l n) (hE : Env8 W Ad) (i x : Int) (hi : numAt l i = none) :
    Calls Tryd.prog 15 #[.pointer (some ⟨gb, 0, none⟩), .int .i64 i, .int .i64 x] W fun e W' => ∃ t q, e = .returned (.tuple #[.int .i64 0, .iface t q]) ∧ Err Ad W' (.iface t q) 7 1 ∧ Below W.heap.size W W' := by
  have C := hid (check_out h hE i (numAt_out hi))
  have AC := hid (fun str => at_err Ad str _ 7 0 W (err_leaf Ad W 7 (by decide)))
  clear h hE hi
  go_enter Tryd.func15, Tryd.ntmps15
  go_wp2_with fail
  refine C.out.mono ?_
  rintro e w' ⟨rfl, rfl⟩
  go_wp2_with fail
  refine (AC.out _).mono ?_
  rintro e w1 ⟨t, q, rfl, hv, hb⟩
  have HV := hid hv
  have HB := hid hb
  clear hv hb AC
  go_wp2_with fail
  go_ret2
  exact ⟨t, q, rfl, HV.out, HB.out⟩
set_option maxHeartbeats 1600000 in
theorem add_nil (hE : Env8 W Ad) (i x : Int) :
    Calls Tryd.prog 15 #[.pointer none, .int .i64 i, .int .i64 x] W fun e W' => ∃ t q, e = .returned (.tuple #[.int .i64 0, .iface t q]) ∧ Err Ad W' (.iface t q) 2 1 ∧ Below W.heap.size W W' := by
  have C := hid (check_nil hE i)
  have AC := hid (fun str => at_err Ad str _ 2 0 W (err_leaf Ad W 2 (by decide)))
  clear hE
  go_enter Tryd.func15, Tryd.ntmps15
  go_wp2_with fail
  refine C.out.mono ?_
  rintro e w' ⟨rfl, rfl⟩
  go_wp2_with fail
  refine (AC.out _).mono ?_
  rintro e w1 ⟨t, q, rfl, hv, hb⟩
  have HV := hid hv
  have HB := hid hb
  clear hv hb AC
  go_wp2_with fail
  go_ret2
  exact ⟨t, q, rfl, HV.out, HB.out⟩
set_option maxHeartbeats 800000 in
theorem named_any (h : Gd B W gb mb v ns l n) (s : ByteArray) (hs : s.size ≤ maxLen) :
    Calls Tryd.prog 20 #[.pointer (some ⟨gb, 0, none⟩), .string s] W fun e W' => e = .returned (.tuple #[.int .i64 (pl ns s), .bool (memB ns s)]) ∧ W' = W := by
  have c0 := h.c0
  have lk := h.map.look Tryd.underlying67 s hs
  generalize pl ns s = x at *
  generalize memB ns s = b at *
  clear h hs
  go_enter Tryd.func20, Tryd.ntmps20
  go_wp2_with fail
  go_ret2
  exact ⟨rfl, rfl⟩
set_option maxHeartbeats 800000 in
theorem named_nil (s : ByteArray) : Calls Tryd.prog 20 #[.pointer none, .string s] W fun e W' => e = .returned (.tuple #[.int .i64 0, .bool false]) ∧ W' = W := by
  go_enter Tryd.func20, Tryd.ntmps20
  go_wp2_with fail
  go_ret2
  exact ⟨rfl, rfl⟩
set_option maxHeartbeats 800000 in
theorem len_any (h : Gd B W gb mb v ns l n) : Calls Tryd.prog 22 #[.pointer (some ⟨gb, 0, none⟩)] W fun e W' => e = .returned (.int .i64 (l.length : Int)) ∧ W' = W := by
  obtain ⟨a, c, rfl⟩ := h.slice
  have c1 := h.c1
  clear h
  go_enter Tryd.func22, Tryd.ntmps22
  go_wp2_with fail
  go_ret
  exact ⟨rfl, rfl⟩
set_option maxHeartbeats 800000 in
theorem len_nil (W : World) : Calls Tryd.prog 22 #[.pointer none] W fun e W' => e = .returned (.int .i64 0) ∧ W' = W := by
  go_enter Tryd.func22, Tryd.ntmps22
  go_wp2_with fail
  go_ret
  exact ⟨rfl, rfl⟩
set_option maxHeartbeats 800000 in
theorem changes_any (h : Gd B W gb mb v ns l n) : Calls Tryd.prog 19 #[.pointer (some ⟨gb, 0, none⟩)] W fun e W' => e = .returned (.int .i64 (n : Int)) ∧ W' = W := by
  have c2 := h.c2
  clear h
  go_enter Tryd.func19, Tryd.ntmps19
  go_wp2_with fail
  go_ret
  exact ⟨rfl, rfl⟩
set_option maxHeartbeats 800000 in
theorem changes_nil (W : World) : Calls Tryd.prog 19 #[.pointer none] W fun e W' => e = .returned (.int .i64 0) ∧ W' = W := by
  go_enter Tryd.func19, Tryd.ntmps19
  go_wp2_with fail
  go_ret
  exact ⟨rfl, rfl⟩
end
end Go.Proofs.YtbfjijiakkopeaaDoor.Gs
