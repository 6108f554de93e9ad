/- The document's journal: Since. -/
import Derived.Test.YtnbgjbdbbmpoaaaDoorJoRc
namespace Go.Proofs.YtnbgjbdbbmpoaaaDoor.Jo
open Go.RowKit Go.Shelf Go.Maps
/-- append of one element onto an owned row. -/
theorem wpList_one {ops : Array Oper} {rest : List Oper} {o : Oper} {a : Act} {Q : Exit → Act → World → Prop} (hgd : o.guard = none) (s x : Operand) {t e : TypeId} {i0 : TypeInfo} {z : Value} {sz bytes : Nat}
    (ho : o.op = .call { callee := .builtin .append, args := #[s, x], argTypes := #[t, t] }) (ht : Tryd.prog.underlying t = some (.slice e)) (hi : Tryd.prog.info? e = some i0) (hz0 : i0.zero = some z) (hz1 : i0.size = sz) (hz2 : i0.bytes = bytes) (hzs : z.cells.size = sz) (hsz : 0 < sz) (hby : bytes ≤ 1000)
    {B : Nat} {wc : World} {v : Value} {n : Nat} {xs : List Value} (hown : wc.ownsRow B e sz v n xs) (hn : n ≤ 100000) (hB : B ≤ wc.heap.size) {arr : Array Value} (hone : ∀ u ∈ arr.toList, u.oneCell' = true) (hal : arr.size = sz)
    (hs : a.eval s = v) (hx : a.eval x = .slice (some ⟨wc.heap.size, 0, none⟩) 1 1)
    (h : ∀ g cap w2, Hid (w2.ownsRow B e sz (.slice (some ⟨g, 0, none⟩) (n + 1) cap) (n + 1) (xs ++ arr.toList)) → Hid (St (fun x => v.ownBlock = some x) wc w2) → wpList Tryd.prog ops Q rest (a.put o.dst (.slice (some ⟨g, 0, none⟩) (n + 1) cap)) w2) :
    wpList Tryd.prog ops Q (o :: rest) a (wc.alloc (.cells arr e)) := by
  have hb : Below wc.heap.size wc (wc.alloc (.cells arr e)) := bAl _ _
  have ho2 : (wc.alloc (.cells arr e)).ownsRow B e sz v n xs := World.ownsRow.alloc hown _
  have hbn : (n + 1) * bytes ≤ 100001 * 1000 := Nat.mul_le_mul (by omega) hby
  refine wpList_append_lies _ hgd s x t ho B e i0 z sz bytes ht hi hz0 hz1 hz2 hzs hsz v n xs hs ho2 ⟨wc.heap.size, 0, none⟩ 1 1 arr.toList hx (by simp [hal]) (fun j u hu => by
    rw [add_at]
    exact cell_blk (heap_alloc_new wc _) (by simpa using hu)) hone (by decide) (by unfold maxLen; omega) (by omega) (by simp; omega) (wc.heap.size + 1) (by simp) ?_
  intro g' cap w2 ow hg hat hlt
  exact h _ _ w2 ow ((St.of_below hb).trans (St.of_grown (S := fun x => v.ownBlock = some x) hg fun k e => e) fun _ _ q => q)
/-- What Since answers. -/
def sinceL (es : List En) (x : Int) : List Ue := (es.reverse.filter fun e => decide (x ≤ e.m)).map En.u
theorem sinceL_cons (e : En) (es : List En) (x : Int) : sinceL (e :: es) x = sinceL es x ++ if x ≤ e.m then [e.u] else [] := by
  unfold sinceL
  rw [List.reverse_cons, List.filter_append, List.map_append]
  congr 1
  by_cases h : x ≤ e.m <;> simp [h]
theorem sinceL_len (es : List En) (x : Int) : (sinceL es x).length ≤ es.length := by
  unfold sinceL
  rw [List.length_map]
  exact Nat.le_trans (List.length_filter_le _ _) (by simp)
theorem sinceL_mem {es : List En} {x : Int} {u : Ue} (h : u ∈ sinceL es x) : ∃ e ∈ es, e.u = u := by
  unfold sinceL at h
  obtain ⟨e, he, rfl⟩ := List.mem_map.1 h
  exact ⟨e, by simpa using (List.mem_filter.1 he).1, rfl⟩
def markB (ms : List Int) (x : Int) : Bool := ms.any (· == x)
theorem take_any (ms : List Int) (x : Int) {k : Nat} {m : Int} (h : ms[k]? = some m) : (ms.take (k + 1)).any (· == x) = ((ms.take k).any (· == x) || (m == x)) := by
  rw [List.take_add_one, h]
  simp
section
variable {B : Nat} {W W' : World} {ub : Nat} {mv lv : Value} {most : Nat} {ms : List Int} {es : List En}
set_option maxHeartbeats 3200000 in
set_option maxRecDepth 100000 in
theorem rsince_any (h : Rj B W ub mv lv most ms es) (hl : ms.length ≤ 10000) (he : es.length ≤ 10000) (x : Int) :
    Calls Tryd.prog 17 #[.pointer (some ⟨ub, 0, none⟩), .int .i64 x] W fun e W' => Below W.heap.size W W' ∧ (markB ms x = false → e = .returned (.tuple #[.slice none 0 0, .int .i64 16])) ∧ (markB ms x = true → ∃ v, e = .returned (.tuple #[v, .int .i64 0]) ∧ Uo W.heap.size W' v (sinceL es x)) := by
  have H := hid h
  obtain ⟨am, cm, rfl⟩ := h.marks.slice
  obtain ⟨al, cl, rfl⟩ := h.ents.slice
  have hli : (ms.length : Int) ≤ 10000 := by omega
  have hei : (es.length : Int) ≤ 10000 := by omega
  have HLE := hid he
  clear h
  go_enter Tryd.func17, Tryd.ntmps17
  go_wp2_with fail
  go_loopg [6, 7] ms.length (fun gh s6 s7 wr => ∃ k : Nat, k ≤ ms.length ∧ gh = ms.length - k ∧ s7 = .int .i64 (k : Int) ∧ s6 = .bool ((ms.take k).any (· == x)) ∧ Hid (wr = W))
  case atStart => exact ⟨0, Nat.zero_le _, rfl, rfl, rfl, rfl⟩
  case round =>
    rename World => wr
    obtain ⟨k, hk, rfl, rfl, rfl, HW⟩ := hrel
    obtain rfl := HW.out
    have c1 := H.out.c1
    by_cases hlt : k < ms.length
    · have hki : (k : Int) < (ms.length : Int) := by omega
      obtain ⟨m, hm⟩ := at_lt ms k hlt
      obtain ⟨g, rfl, d0, -⟩ := H.out.marks.at hm
      have ST := hid (take_any ms x hm)
      obtain ⟨bk, hbk⟩ : ∃ bk, (ms.take k).any (· == x) = bk := ⟨_, rfl⟩
      rw [hbk] at ST ⊢
      clear hm hbk
      cases bk with
      | true =>
        go_wp2_with fail
        go_roundg (ms.length - (k + 1))
        case measure => omega
        case rel => exact ⟨k + 1, by omega, rfl, by go_num, by rw [ST.out]; rfl, rfl⟩
      | false =>
        by_cases hmx : m = x
        · subst hmx
          go_wp2_with fail
          go_roundg (ms.length - (k + 1))
          case measure => omega
          case rel => exact ⟨k + 1, by omega, rfl, by go_num, by rw [ST.out]; simp, rfl⟩
        · have hmb : (m == x) = false := beq_eq_false_iff_ne.2 hmx
          go_wp2_with fail
          go_roundg (ms.length - (k + 1))
          case measure => omega
          case rel => exact ⟨k + 1, by omega, rfl, by go_num, by rw [ST.out]; simp [hmb], rfl⟩
    · obtain rfl : k = ms.length := by omega
      have hki : ¬ (ms.length : Int) < (ms.length : Int) := by omega
      obtain ⟨bk, hbk⟩ : ∃ bk, markB ms x = bk := ⟨_, rfl⟩
      have e0 : (ms.take ms.length).any (· == x) = bk := by rw [List.take_length]; exact hbk
      rw [e0]
      have HBK := hid hbk
      clear e0 hbk hlt
      cases bk with
      | false =>
        go_wp2_with fail
        go_ret2
        exact ⟨Below.refl _ _, fun _ => rfl, fun q => by rw [HBK.out] at q; cases q⟩
      | true =>
        have b0 := bAl wr (.cells #[] 38)
        have U0 : Hid (Uo wr.heap.size (wr.alloc (.cells #[] 38)) (.slice (some ⟨wr.heap.size, 0, none⟩) 0 0) (sinceL (es.drop es.length) x)) := by
          show Uo _ _ _ _
          rw [List.drop_length]
          exact ⟨World.ownsRow_lit (base := wr.heap.size) (e := 38) (size := 11) wr #[] 0 (Nat.le_refl _) (Nat.zero_le _) rfl, fun u hu => by simp [sinceL] at hu⟩
        have B0 := hid b0
        have c2 := seen b0 (Nat.le_refl _) H.out.c2
        clear b0
        go_wp2_with fail
        clear c2 c1
        go_loopg [8, 9] (es.length + 1) (fun gh s8 s9 wy => ∃ (r : Nat) (a8 : Option Addr) (n8 c8 : Nat), r ≤ es.length ∧ gh = r + 1 ∧ s9 = .int .i64 ((r : Int) - 1) ∧ s8 = .slice a8 n8 c8 ∧ Hid (Uo wr.heap.size wy (.slice a8 n8 c8) (sinceL (es.drop r) x)) ∧ Hid (Below wr.heap.size wr wy))
        case atStart => exact ⟨es.length, _, _, _, Nat.le_refl _, rfl, rfl, rfl, U0.out, B0.out⟩
        case round =>
          clear U0 B0
          rename World => wy
          obtain ⟨r, a8, n8, c8, hr, rfl, rfl, rfl, HU, HB⟩ := hrel
          cases r with
          | zero =>
            have FB := hid HB.out
            have FU := hid HU.out
            rw [List.drop_zero] at FU
            clear HB HU
            go_wp2_with fail
            go_ret2
            exact ⟨FB.out, fun q => by (rw [HBK.out] at q; cases q), fun _ => ⟨_, rfl, FU.out⟩⟩
          | succ q =>
            have hqi : (q : Int) < (es.length : Int) := by omega
            have eq1 : ((q + 1 : Nat) : Int) - 1 = (q : Int) := by omega
            rw [eq1]
            clear eq1
            have H2 := H.out.later HB.out
            have c2 := H2.c2
            obtain ⟨e, hen⟩ := at_lt es q (by omega)
            obtain ⟨g, rfl, dd⟩ := H2.ents.at rfl hen
            have hsl := H2.ents.2 e (List.mem_of_getElem? hen)
            have ED := hid (show sinceL (es.drop q) x = sinceL (es.drop (q + 1)) x ++ if x ≤ e.m then [e.u] else [] by
              rw [List.drop_eq_getElem?_toList_append, hen]
              exact sinceL_cons e _ x)
            have d0 : wy.cell? ⟨g, q * 12, none⟩ = some (.int .i64 e.m) := dd 0 (by decide)
            have d1 : wy.cell? ⟨g, q * 12 + 1, none⟩ = some (.int .i64 e.u.k) := dd 1 (by decide)
            have d2 : wy.cell? ⟨g, q * 12 + 2, none⟩ = some (.int .i64 e.u.id) := dd 2 (by decide)
            have d3 : wy.cell? ⟨g, q * 12 + 3, none⟩ = some (.int .i64 e.u.p.c) := dd 3 (by decide)
            have d4 : wy.cell? ⟨g, q * 12 + 4, none⟩ = some (.int .i64 e.u.p.v0) := dd 4 (by decide)
            have d5 : wy.cell? ⟨g, q * 12 + 5, none⟩ = some (.int .i64 e.u.p.v1) := dd 5 (by decide)
            have d6 : wy.cell? ⟨g, q * 12 + 6, none⟩ = some (.int .i64 e.u.p.v2) := dd 6 (by decide)
            have d7 : wy.cell? ⟨g, q * 12 + 7, none⟩ = some (.int .i64 e.u.p.v3) := dd 7 (by decide)
            have d8 : wy.cell? ⟨g, q * 12 + 8, none⟩ = some (.int .i64 e.u.p.t) := dd 8 (by decide)
            have d9 : wy.cell? ⟨g, q * 12 + 9, none⟩ = some (e.u.pv) := dd 9 (by decide)
            have d10 : wy.cell? ⟨g, q * 12 + 10, none⟩ = some (.int .i64 e.u.n) := dd 10 (by decide)
            have d11 : wy.cell? ⟨g, q * 12 + 11, none⟩ = some (.int .i64 e.u.o) := dd 11 (by decide)
            obtain ⟨ap, np, cp, hpv⟩ := hsl
            have hn8 : (sinceL (es.drop (q + 1)) x).length = n8 := by
              obtain ⟨a', c', e'⟩ := HU.out.slice
              simpa using (congrArg (fun v : Value => match v with | .slice _ n _ => n | _ => 0) e').symm
            have N8 : Hid (n8 ≤ 100000) := by
              show n8 ≤ _
              have h1 := sinceL_len (es.drop (q + 1)) x
              have h2 : (es.drop (q + 1)).length ≤ es.length := by rw [List.length_drop]; omega
              have := HLE.out
              omega
            have OU : Hid (wy.ownsRow wr.heap.size 38 11 (.slice a8 n8 c8) n8 (uCells (sinceL (es.drop (q + 1)) x))) := by
              have := HU.out.1
              rw [hn8] at this
              exact this
            have HN8 := hid hn8
            have SL2 := hid HU.out.2
            have SZ := hid HB.out.size
            have hsl2 : Sl e.u := ⟨ap, np, cp, hpv⟩
            have SE := hid hsl2
            have ONE : Hid (∀ v ∈ e.u.arr.toList, v.oneCell' = true) := by
              intro w hw
              simp [Ue.arr] at hw
              rcases hw with rfl | rfl | rfl | rfl | rfl | rfl | rfl | rfl | rfl | rfl | rfl <;> first | rfl | exact hsl2.one
            clear hn8 hen dd hsl2
            by_cases hx : x ≤ e.m
            · have EH : Hid (sinceL (es.drop q) x = sinceL (es.drop (q + 1)) x ++ [e.u]) := by show _ = _; rw [ED.out, if_pos hx]
              clear ED HU
              obtain ⟨m, uk, uid, ⟨pc, p0, p1, p2, p3, pt⟩, upv, ups, un, uo⟩ := e
              simp only at hpv hx d0 d1 d2 d3 d4 d5 d6 d7 d8 d9 d10 d11
              subst hpv
              obtain ⟨i0, hi, hz0, hz1, hz2⟩ := info_parts infoUndo
              have I1 := hid hi
              have I2 := hid hz0
              have I3 := hid hz1
              have I4 := hid hz2
              clear hi hz0 hz1 hz2
              go_wp2_with (at_builtin; refine wpList_one rfl _ _ rfl Tryd.underlying41 I1.out I2.out I3.out I4.out rfl (by decide) (by decide) OU.out N8.out SZ.out ONE.out rfl rfl rfl ?_; intro g8 cap8 w2 hO hS)
              have FB : Hid (Below wr.heap.size wr w2) := HB.out.trans (hS.out.below (fun k q => (OU.out.lt k q).1) HB.out.size)
              have FU : Hid (Uo wr.heap.size w2 (.slice (some ⟨g8, 0, none⟩) (n8 + 1) cap8) (sinceL (es.drop q) x)) := by
                show Uo _ _ _ _
                rw [EH.out]
                refine ⟨?_, fun u hu => ?_⟩
                · rw [uCells_snoc, List.length_append, HN8.out]
                  exact hO.out
                · rcases List.mem_append.1 hu with hu | hu
                  · exact SL2.out u hu
                  · obtain rfl := List.mem_singleton.1 hu
                    exact SE.out
              clear EH OU hO hS SL2 ONE HB d0 d1 d2 d3 d4 d5 d6 d7 d8 d9 d10 d11 c2 H2
              go_wp2_with fail
              go_roundg (q + 1)
              case measure => omega
              case rel => exact ⟨q, _, _, _, by omega, rfl, by go_num, rfl, FU.out, FB.out⟩
            · have hxb : ¬ x ≤ e.m := hx
              have EH : Hid (sinceL (es.drop q) x = sinceL (es.drop (q + 1)) x) := by show _ = _; rw [ED.out, if_neg hx, List.append_nil]
              have FU := hid HU.out
              rw [← EH.out] at FU
              clear ED EH HU
              go_wp2_with fail
              go_roundg (q + 1)
              case measure => omega
              case rel => exact ⟨q, _, _, _, by omega, rfl, by go_num, rfl, FU.out, HB.out⟩
end
end Go.Proofs.YtnbgjbdbbmpoaaaDoor.Jo
