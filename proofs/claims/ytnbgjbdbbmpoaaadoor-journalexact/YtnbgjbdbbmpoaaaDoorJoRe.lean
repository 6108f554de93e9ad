/- The document's journal: keep, Back, Forget. -/
import Derived.Test.YtnbgjbdbbmpoaaaDoorJoRd
namespace Go.Proofs.YtnbgjbdbbmpoaaaDoor.Jo
open Go.RowKit Go.Shelf Go.Maps
def inB (low high m : Int) : Bool := decide (low ≤ m) && decide (m ≤ high)
def keepM (low high : Int) (ms : List Int) : List Int := ms.filter (inB low high)
def keepE (low high : Int) (es : List En) : List En := es.filter fun e => inB low high e.m
theorem keepM_succ (low high : Int) (ms : List Int) {k : Nat} {m : Int} (h : ms[k]? = some m) : keepM low high (ms.take (k + 1)) = keepM low high (ms.take k) ++ if inB low high m = true then [m] else [] := by
  unfold keepM
  rw [List.take_add_one, h, List.filter_append]
  congr 1
  by_cases q : inB low high m = true <;> simp [q]
theorem keepE_succ (low high : Int) (es : List En) {k : Nat} {e : En} (h : es[k]? = some e) : keepE low high (es.take (k + 1)) = keepE low high (es.take k) ++ if inB low high e.m = true then [e] else [] := by
  unfold keepE
  rw [List.take_add_one, h, List.filter_append]
  congr 1
  by_cases q : inB low high e.m = true <;> simp [q]
theorem keepM_len (low high : Int) (ms : List Int) (k : Nat) : (keepM low high (ms.take k)).length ≤ ms.length := Nat.le_trans (List.length_filter_le _ _) (by rw [List.length_take]; omega)
theorem keepE_len (low high : Int) (es : List En) (k : Nat) : (keepE low high (es.take k)).length ≤ es.length := Nat.le_trans (List.length_filter_le _ _) (by rw [List.length_take]; omega)
theorem slice_len {a a' : Option Addr} {n n' c c' : Nat} (h : Value.slice a n c = .slice a' n' c') : n = n' := by simpa using (congrArg (fun v : Value => match v with | .slice _ n _ => n | _ => 0) h)
theorem Ns.num {B : Nat} {W : World} {a : Option Addr} {n c : Nat} {l : List Int} (h : Ns B W (.slice a n c) l) : l.length = n := by
  obtain ⟨a', c', e⟩ := h.slice
  exact (slice_len e).symm
theorem Eo.num {B : Nat} {W : World} {a : Option Addr} {n c : Nat} {l : List En} (h : Eo B W (.slice a n c) l) : l.length = n := by
  obtain ⟨a', c', e⟩ := h.slice
  exact (slice_len e).symm
theorem Uo.num {B : Nat} {W : World} {a : Option Addr} {n c : Nat} {l : List Ue} (h : Uo B W (.slice a n c) l) : l.length = n := by
  obtain ⟨a', c', e⟩ := h.slice
  exact (slice_len e).symm
/-- Rows of different types are apart. -/
theorem own_apart {B B' : Nat} {W W' : World} {v v' : Value} {e e' : TypeId} {sz sz' n n' : Nat} {xs xs' : List Value} (h : W.ownsRow B e sz v n xs) (h' : W.ownsRow B' e' sz' v' n' xs') (hne : e ≠ e') (hs : St (fun x => v'.ownBlock = some x) W W') : W'.ownsRow B e sz v n xs :=
  own_st h hs fun k hk q => by
    obtain ⟨-, c1, h1⟩ := own_typ h hk
    obtain ⟨-, c2, h2⟩ := own_typ h' q
    rw [h1] at h2
    simp at h2
    exact hne h2.2
section
variable {B : Nat} {W W' : World} {ub : Nat} {mv lv : Value} {most : Nat} {ms : List Int} {es : List En}
set_option maxHeartbeats 6400000 in
set_option maxRecDepth 100000 in
theorem keep_any (h : Rj B W ub mv lv most ms es) (hB : B ≤ W.heap.size) (hl : ms.length ≤ 10000) (he : es.length ≤ 10000) (low high : Int) :
    Calls Tryd.prog 38 #[.pointer (some ⟨ub, 0, none⟩), .int .i64 low, .int .i64 high] W fun e W' => e = .returned (.tuple #[]) ∧ (∃ mv', (∃ lv', Rj B W' ub mv' lv' most (keepM low high ms) (keepE low high es)) ∧ Ns W.heap.size W' mv' (keepM low high ms)) ∧ St (fun k => k = ub) W W' := by
  have H := hid h
  have HB0 := hid hB
  obtain ⟨am, cm, rfl⟩ := h.marks.slice
  obtain ⟨al, cl, rfl⟩ := h.ents.slice
  have hli : (ms.length : Int) ≤ 10000 := by omega
  have hei : (es.length : Int) ≤ 10000 := by omega
  have HLM := hid hl
  have HLE := hid he
  obtain ⟨W0, hW0⟩ : ∃ W0, W0 = (W.alloc (.cells #[] 3)).alloc (.cells #[] 79) := ⟨_, rfl⟩
  have b1 := bAl W (.cells #[] 3)
  have b2 := bAl (W.alloc (.cells #[] 3)) (.cells #[] 79)
  have b0 : Below W.heap.size W W0 := by rw [hW0]; exact b1.trans (b2.mono b1.size)
  have N0 : Hid (Ns W.heap.size W0 (.slice (some ⟨W.heap.size, 0, none⟩) 0 0) (keepM low high (ms.take 0))) := by
    show Ns _ _ _ _
    rw [hW0]
    exact (ns_new W).later b2
  have E0 : Hid (Eo W.heap.size W0 (.slice (some ⟨W.heap.size + 1, 0, none⟩) 0 0) (keepE low high (es.take 0))) := by
    show Eo _ _ _ _
    rw [hW0]
    have q := World.ownsRow_lit (base := W.heap.size) (e := 79) (size := 12) (W.alloc (.cells #[] 3)) #[] 0 (by simp) (Nat.zero_le _) rfl
    have e1 : (W.alloc (.cells #[] 3)).heap.size = W.heap.size + 1 := by simp
    rw [e1] at q
    exact ⟨q, fun e he => by simp [keepE] at he⟩
  have HW0 := hid hW0
  have B0 := hid b0
  clear h hB b1 b2 b0 hW0 hl he
  go_enter Tryd.func38, Tryd.ntmps38
  go_upto_region 2 with fail
  rw [← HW0.out]
  clear HW0
  go_wp2_with fail
  go_loopg [6, 8] ms.length (fun gh s6 s8 wr => ∃ (k : Nat) (a6 : Option Addr) (n6 c6 : Nat), k ≤ ms.length ∧ gh = ms.length - k ∧ s8 = .int .i64 (k : Int) ∧ s6 = .slice a6 n6 c6 ∧ Hid (Ns W.heap.size wr (.slice a6 n6 c6) (keepM low high (ms.take k))) ∧ Hid (Eo W.heap.size wr (.slice (some ⟨W.heap.size + 1, 0, none⟩) 0 0) []) ∧ Hid (Below W.heap.size W wr))
  case atStart => exact ⟨0, _, _, _, Nat.zero_le _, rfl, rfl, rfl, N0.out, E0.out, B0.out⟩
  case round =>
    clear N0 E0 B0
    rename World => wr
    obtain ⟨k, a6, n6, c6, hk, rfl, rfl, rfl, HN, HE, HB⟩ := hrel
    have H1 := H.out.later HB.out
    have c1 := H1.c1
    by_cases hlt : k < ms.length
    · have hki : (k : Int) < (ms.length : Int) := by omega
      obtain ⟨m, hm⟩ := at_lt ms k hlt
      obtain ⟨g, rfl, d0, -⟩ := H1.marks.at hm
      have ST := hid (keepM_succ low high ms hm)
      have N6 : Hid (n6 ≤ 10000000) := by
        have h1 := HN.out.num
        have h2 := keepM_len low high ms k
        have := HLM.out
        show _ ≤ _
        omega
      clear H1 hm
      by_cases q1 : low ≤ m
      · by_cases q2 : m ≤ high
        · have EH : Hid (keepM low high (ms.take (k + 1)) = keepM low high (ms.take k) ++ [m]) := by
            show _ = _
            rw [ST.out, if_pos (by simp [inB, q1, q2])]
          have NN : Hid ((keepM low high (ms.take k)).length ≤ 10000000) := by show _ ≤ _; rw [HN.out.num]; exact N6.out
          have SZ := hid HB.out.size
          clear ST N6
          go_wp2_with (at_builtin; refine wpList_num rfl _ _ rfl (k := m) HN.out NN.out SZ.out rfl rfl ?_; intro v2 w2 hN2 hS2; obtain ⟨a2, n2, c2, rfl⟩ := own_form hN2.out)
          have FB : Hid (Below W.heap.size W w2) := HB.out.trans (hS2.out.below (fun x q => (World.ownsRow.lt HN.out x q).1) HB.out.size)
          have FE : Hid (Eo W.heap.size w2 (.slice (some ⟨W.heap.size + 1, 0, none⟩) 0 0) []) := ⟨own_apart HE.out.1 HN.out (by decide) hS2.out, HE.out.2⟩
          have FN : Hid (Ns W.heap.size w2 (.slice a2 n2 c2) (keepM low high (ms.take (k + 1)))) := by
            show Ns _ _ _ _
            rw [EH.out]
            exact hN2.out
          clear HN HE HB hN2 hS2 EH NN c1 d0
          go_wp2_with fail
          go_roundg (ms.length - (k + 1))
          case measure => omega
          case rel => exact ⟨k + 1, _, _, _, by omega, rfl, by go_num, rfl, FN.out, FE.out, FB.out⟩
        · have EH : Hid (keepM low high (ms.take (k + 1)) = keepM low high (ms.take k)) := by
            show _ = _
            rw [ST.out, if_neg (by simp [inB, q2]), List.append_nil]
          have FN := hid HN.out
          rw [← EH.out] at FN
          clear ST N6 EH HN
          go_wp2_with fail
          go_roundg (ms.length - (k + 1))
          case measure => omega
          case rel => exact ⟨k + 1, _, _, _, by omega, rfl, by go_num, rfl, FN.out, HE.out, HB.out⟩
      · have EH : Hid (keepM low high (ms.take (k + 1)) = keepM low high (ms.take k)) := by
          show _ = _
          rw [ST.out, if_neg (by simp [inB, q1]), List.append_nil]
        have FN := hid HN.out
        rw [← EH.out] at FN
        clear ST N6 EH HN
        go_wp2_with fail
        go_roundg (ms.length - (k + 1))
        case measure => omega
        case rel => exact ⟨k + 1, _, _, _, by omega, rfl, by go_num, rfl, FN.out, HE.out, HB.out⟩
    · obtain rfl : k = ms.length := by omega
      have hki : ¬ (ms.length : Int) < (ms.length : Int) := by omega
      rw [List.take_length] at HN
      clear H1 hlt
      go_wp2_with fail
      clear c1
      go_loopg [7, 9] es.length (fun gh s7 s9 wy => ∃ (k : Nat) (a7 : Option Addr) (n7 c7 : Nat), k ≤ es.length ∧ gh = es.length - k ∧ s9 = .int .i64 (k : Int) ∧ s7 = .slice a7 n7 c7 ∧ Hid (Ns W.heap.size wy (.slice a6 n6 c6) (keepM low high ms)) ∧ Hid (Eo W.heap.size wy (.slice a7 n7 c7) (keepE low high (es.take k))) ∧ Hid (Below W.heap.size W wy))
      case atStart => exact ⟨0, _, _, _, Nat.zero_le _, rfl, rfl, rfl, HN.out, HE.out, HB.out⟩
      case round =>
        clear HN HE HB
        rename World => wy
        obtain ⟨k, a7, n7, c7, hk2, rfl, rfl, rfl, HN, HE, HB⟩ := hrel
        have H1 := H.out.later HB.out
        have c2 := H1.c2
        by_cases hlt : k < es.length
        · have hki2 : (k : Int) < (es.length : Int) := by omega
          obtain ⟨e, hen⟩ := at_lt es k hlt
          obtain ⟨g, rfl, dd⟩ := H1.ents.at rfl hen
          have hsl := H1.ents.2 e (List.mem_of_getElem? hen)
          have ST := hid (keepE_succ low high es hen)
          have hn7 := HE.out.num
          have N7 : Hid (n7 ≤ 100000) := by
            have h2 := keepE_len low high es k
            have := HLE.out
            show _ ≤ _
            omega
          have OE : Hid (wy.ownsRow W.heap.size 79 12 (.slice a7 n7 c7) n7 (eCells (keepE low high (es.take k)))) := by
            have := HE.out.1
            rw [hn7] at this
            exact this
          have HN7 := hid hn7
          have SL2 := hid HE.out.2
          have ONE := hid (En.one hsl)
          have SE := hid hsl
          have SZ := hid HB.out.size
          have d0 : wy.cell? ⟨g, k * 12, none⟩ = some (.int .i64 e.m) := dd 0 (by decide)
          have d1 : wy.cell? ⟨g, k * 12 + 1, none⟩ = some (.int .i64 e.u.k) := dd 1 (by decide)
          have d2 : wy.cell? ⟨g, k * 12 + 2, none⟩ = some (.int .i64 e.u.id) := dd 2 (by decide)
          have d3 : wy.cell? ⟨g, k * 12 + 3, none⟩ = some (.int .i64 e.u.p.c) := dd 3 (by decide)
          have d4 : wy.cell? ⟨g, k * 12 + 4, none⟩ = some (.int .i64 e.u.p.v0) := dd 4 (by decide)
          have d5 : wy.cell? ⟨g, k * 12 + 5, none⟩ = some (.int .i64 e.u.p.v1) := dd 5 (by decide)
          have d6 : wy.cell? ⟨g, k * 12 + 6, none⟩ = some (.int .i64 e.u.p.v2) := dd 6 (by decide)
          have d7 : wy.cell? ⟨g, k * 12 + 7, none⟩ = some (.int .i64 e.u.p.v3) := dd 7 (by decide)
          have d8 : wy.cell? ⟨g, k * 12 + 8, none⟩ = some (.int .i64 e.u.p.t) := dd 8 (by decide)
          have d9 : wy.cell? ⟨g, k * 12 + 9, none⟩ = some (e.u.pv) := dd 9 (by decide)
          have d10 : wy.cell? ⟨g, k * 12 + 10, none⟩ = some (.int .i64 e.u.n) := dd 10 (by decide)
          have d11 : wy.cell? ⟨g, k * 12 + 11, none⟩ = some (.int .i64 e.u.o) := dd 11 (by decide)
          obtain ⟨ap, np, cp, hpv⟩ := hsl
          clear H1 hen dd hn7
          by_cases q1 : low ≤ e.m
          · by_cases q2 : e.m ≤ high
            · have EH : Hid (keepE low high (es.take (k + 1)) = keepE low high (es.take k) ++ [e]) := by
                show _ = _
                rw [ST.out, if_pos (by simp [inB, q1, q2])]
              clear ST HE
              obtain ⟨m, uk, uid, ⟨pc, p0, p1, p2, p3, pt⟩, upv, ups, un, uo⟩ := e
              simp only at hpv q1 q2 d0 d1 d2 d3 d4 d5 d6 d7 d8 d9 d10 d11
              subst hpv
              obtain ⟨i0, hi, hz0, hz1, hz2⟩ := info_parts infoEn
              have I1 := hid hi
              have I2 := hid hz0
              have I3 := hid hz1
              have I4 := hid hz2
              clear hi hz0 hz1 hz2
              go_wp2_with (at_builtin; refine wpList_one rfl _ _ rfl Tryd.underlying54 I1.out I2.out I3.out I4.out rfl (by decide) (by decide) OE.out N7.out SZ.out ONE.out rfl rfl rfl ?_; intro g8 cap8 w2 hO hS)
              have FB : Hid (Below W.heap.size W w2) := HB.out.trans (hS.out.below (fun x q => (OE.out.lt x q).1) HB.out.size)
              have FN : Hid (Ns W.heap.size w2 (.slice a6 n6 c6) (keepM low high ms)) := own_apart HN.out OE.out (by decide) hS.out
              have FE : Hid (Eo W.heap.size w2 (.slice (some ⟨g8, 0, none⟩) (n7 + 1) cap8) (keepE low high (es.take (k + 1)))) := by
                show Eo _ _ _ _
                rw [EH.out]
                refine ⟨?_, fun u hu => ?_⟩
                · rw [eCells_snoc, List.length_append, HN7.out]
                  exact hO.out
                · rcases List.mem_append.1 hu with hu | hu
                  · exact SL2.out u hu
                  · obtain rfl := List.mem_singleton.1 hu
                    exact SE.out
              clear EH OE hO hS SL2 ONE HB HN d0 d1 d2 d3 d4 d5 d6 d7 d8 d9 d10 d11 c2
              go_wp2_with fail
              go_roundg (es.length - (k + 1))
              case measure => omega
              case rel => exact ⟨k + 1, _, _, _, by omega, rfl, by go_num, rfl, FN.out, FE.out, FB.out⟩
            · have EH : Hid (keepE low high (es.take (k + 1)) = keepE low high (es.take k)) := by
                show _ = _
                rw [ST.out, if_neg (by simp [inB, q2]), List.append_nil]
              have FE := hid HE.out
              rw [← EH.out] at FE
              clear ST EH HE OE
              go_wp2_with fail
              go_roundg (es.length - (k + 1))
              case measure => omega
              case rel => exact ⟨k + 1, _, _, _, by omega, rfl, by go_num, rfl, HN.out, FE.out, HB.out⟩
          · have EH : Hid (keepE low high (es.take (k + 1)) = keepE low high (es.take k)) := by
              show _ = _
              rw [ST.out, if_neg (by simp [inB, q1]), List.append_nil]
            have FE := hid HE.out
            rw [← EH.out] at FE
            clear ST EH HE OE
            go_wp2_with fail
            go_roundg (es.length - (k + 1))
            case measure => omega
            case rel => exact ⟨k + 1, _, _, _, by omega, rfl, by go_num, rfl, HN.out, FE.out, HB.out⟩
        · obtain rfl : k = es.length := by omega
          have hki2 : ¬ (es.length : Int) < (es.length : Int) := by omega
          rw [List.take_length] at HE
          obtain ⟨r3, s3⟩ := H1.renew1 (HN.out.lower HB0.out)
          obtain ⟨r4, s4⟩ := r3.renew2 ((HE.out.kept s3 fun x hx q => by
            obtain ⟨-, cur, hc⟩ := own_typ HE.out.1 hx
            subst q
            rw [H1.box] at hc
            simp at hc).lower HB0.out)
          have k1 := H1.c1
          have f1 := blk_free H1.box 1
          have k2 := r3.c2
          have f2 := blk_free r3.box 2
          have NF : Hid (Ns W.heap.size ((wy.setCell ⟨ub, 1, none⟩ (.slice a6 n6 c6)).setCell ⟨ub, 2, none⟩ (.slice a7 n7 c7)) (.slice a6 n6 c6) (keepM low high ms)) := by
            refine (HN.out.kept s3 ?_).kept s4 ?_
            · intro x hx q
              exact r3.nm hx q
            · intro x hx q
              exact r3.nm hx q
          have SF : Hid (St (fun k => k = ub) W ((wy.setCell ⟨ub, 1, none⟩ (.slice a6 n6 c6)).setCell ⟨ub, 2, none⟩ (.slice a7 n7 c7))) := ((St.of_below (S := fun k => k = ub) HB.out).trans s3 fun _ _ q => q).trans s4 fun _ _ q => q
          have FIN := hid r4
          clear r3 s3 r4 s4 H1 HN HE
          go_wp2_with fail
          go_end0
          exact ⟨rfl, ⟨_, ⟨_, FIN.out⟩, NF.out⟩, SF.out⟩
end
end Go.Proofs.YtnbgjbdbbmpoaaaDoor.Jo
