/- every: something holds of all components of a set. -/
import Derived.Test.YtfabmleiibnhdaaDoorQuQb
import Derived.Shelf.Abstract
import Derived.Deep.LoopGhost
namespace Go.Proofs.YtfabmleiibnhdaaDoor.Qu
open Go.RowKit Go.Shelf Go.Maps
open Go.Proofs.YtfabmleiibnhdaaDoor.Rs (Prt PRow Six)
open Go.Proofs.YtfabmleiibnhdaaDoor.At (St bAl cell_blk blk_seen blk_free lst lst_mem lst_len Ints)
/-- Behind k of them nothing was amiss. -/
def okTo (cs : List Nat) (P : Int → Bool) (k : Nat) : Prop := ∀ j, j < k → ∀ c, cs[j]? = some c → P ((c : Nat) : Int) = true
set_option maxHeartbeats 3200000 in
set_option maxRecDepth 100000 in
theorem every_any (fk : Nat) (pre lb : Array Value) (eg : ∀ args w, (callFunc fk args).run Tryd.prog w = .ok (.enter fk args) w) {W : World} (m : Nat) (hm : m < 4294967296) (P : Int → Bool)
    (hstep : ∀ (c : Nat) w, c < 32 → Below W.heap.size W w → Calls Tryd.prog fk (pre ++ #[.int .i64 ((c : Nat) : Int)] ++ lb) w fun e w' => e = .returned (.bool (P ((c : Nat) : Int))) ∧ Below w.heap.size w w') :
    Calls Tryd.prog 23 #[.int .u32 (m : Int), .func (.func fk) pre lb] W fun e W' => e = .returned (.bool (evB m P)) ∧ Below W.heap.size W W' := by
  have LI := hid (At.list_any m hm W)
  have HS := hid hstep
  have hln := lst_len m 32
  have HB : Hid (∀ c, c ∈ lst 32 m → c < 32) := fun c hc => ((lst_mem m c 32).1 hc).1
  have HV : Hid (evB m P = (lst 32 m).all fun i => P ((i : Nat) : Int)) := rfl
  clear hstep
  go_enter Tryd.func23, Tryd.ntmps23
  go_wp2_with fail
  refine LI.out.mono ?_
  rintro e w1 ⟨lv0, rfl, hlv, hb1⟩
  obtain ⟨la, lc, rfl⟩ := hlv.slice
  generalize lst 32 m = cs at *
  have B1 := hid hb1
  have L1 := hid hlv
  clear hlv hb1 LI
  have hleni : (cs.length : Int) ≤ 32 := by omega
  go_wp2_with fail
  go_loopg [6, 10] cs.length (fun gh _ q wr => ∃ k : Nat, k ≤ cs.length ∧ gh = cs.length - k ∧ q = .int .i64 (k : Int) ∧ Hid (Below w1.heap.size w1 wr) ∧ Hid (okTo cs P k))
  case atStart => exact ⟨0, Nat.zero_le _, rfl, rfl, Below.refl _ _, fun j hj => absurd hj (by omega)⟩
  case round =>
    rename World => wr
    obtain ⟨k, hk, rfl, rfl, HW, HK⟩ := hrel
    have BW := hid (B1.out.trans (HW.out.mono B1.out.size))
    by_cases hlt : k < cs.length
    · have hki : (k : Int) < (cs.length : Int) := by omega
      obtain ⟨c, hc⟩ := at_lt cs k hlt
      have LW := L1.out.later HW.out
      obtain ⟨g, rfl, -, -⟩ := LW.some (by omega)
      have x1 := LW.cell hc
      have ST := hid (HS.out c wr (HB.out c (List.mem_of_getElem? hc)) BW.out)
      have HC := hid hc
      clear hc LW
      go_wp2_with fail
      refine ST.out.mono ?_
      rintro e w2 ⟨rfl, hb2⟩
      have B2 := hid (HW.out.trans (hb2.mono HW.out.size))
      have BW2 := hid (BW.out.trans (hb2.mono BW.out.size))
      clear hb2 ST x1
      cases hp : P ((c : Nat) : Int) with
      | true =>
        have K2 : Hid (okTo cs P (k + 1)) := fun j hj c' hc' => by
          by_cases e : j = k
          · subst e
            rw [HC.out] at hc'
            obtain rfl : c = c' := by simpa using hc'
            exact hp
          · exact HK.out j (by omega) c' hc'
        clear hp
        go_wp2_with fail
        go_roundg (cs.length - (k + 1))
        case measure => omega
        case rel => exact ⟨k + 1, by omega, rfl, by go_num, B2.out, K2.out⟩
      | false =>
        have R : Hid (evB m P = false) := by
          show _ = _
          rw [HV.out, Bool.eq_false_iff]
          intro q
          rw [List.all_eq_true] at q
          have := q c (List.mem_of_getElem? HC.out)
          rw [hp] at this
          cases this
        clear hp
        go_wp2_with fail
        go_ret
        exact ⟨by rw [R.out]; rfl, BW2.out⟩
    · have hki : ¬ ((k : Int) < (cs.length : Int)) := by omega
      have R : Hid (evB m P = true) := by
        show _ = _
        rw [HV.out, List.all_eq_true]
        intro c hc
        obtain ⟨j, hj, rfl⟩ := List.getElem_of_mem hc
        exact HK.out j (by omega) _ (List.getElem?_eq_getElem hj)
      go_wp2_with fail
      go_ret
      exact ⟨by rw [R.out]; rfl, BW.out⟩
end Go.Proofs.YtfabmleiibnhdaaDoor.Qu
