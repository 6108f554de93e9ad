/- Contracts of blame: Number. -/
import Derived.Test.YtkhhiddemihnbaaDoorKg
namespace Go.Proofs.YtkhhiddemihnbaaDoor
open Go.RowKit Go.Shelf
/-- The least number of leaves, from k + 1 on; 18: none. -/
def firstK (ns : List Nat) : Nat → Nat → Nat
  | 0, k => k
  | f + 1, k => if k + 1 ∈ ns then k else firstK ns f (k + 1)
/-- What Number answers: 0 of nothing. -/
def numOf (ns : List Nat) : Int := if firstK ns 18 0 < 18 then (firstK ns 18 0 : Int) + 1 else -1
theorem firstK_step {ns : List Nat} {k : Nat} (hk : k < 18) : firstK ns (18 - k) k = if k + 1 ∈ ns then k else firstK ns (18 - (k + 1)) (k + 1) := by
  rw [show 18 - k = (18 - (k + 1)) + 1 by omega]; rfl
set_option maxHeartbeats 800000 in
set_option maxRecDepth 100000 in
theorem number_some (Ad : Nat → Addr) (v : Value) (ls : List (List ByteArray × Nat)) (d : Nat) (w : World) (hE : Env w Ad) (hT : Tr Ad w.heap.size w d v ls) (hd : d ≤ 1000) (hv : ∃ t p, v = .iface t p) :
    Calls Tryd.prog 32 #[v] w fun e w' => e = .returned (.int .i64 (numOf (ls.map Prod.snd))) ∧ Below w.heap.size w w' := by
  obtain ⟨t, p, rfl⟩ := hv
  have HE := hid hE
  have HT := hid hT
  clear hE hT
  go_enter Tryd.func32, Tryd.ntmps32
  go_wp2_with fail
  go_loopw [3] (fun i wr => ∃ k : Nat, k ≤ 18 ∧ i = .int .i64 ((k : Int) + 1) ∧ firstK (ls.map Prod.snd) 18 0 = firstK (ls.map Prod.snd) (18 - k) k ∧ Below w.heap.size w wr) (fun i _ => 20 - (intOf i).toNat)
  case atStart => exact ⟨0, by omega, rfl, rfl, Below.refl _ _⟩
  case round =>
    obtain ⟨k, hk, rfl, hf, hb⟩ := hrel
    have HF := hid hf
    have HB := hid hb
    clear hf hb
    by_cases hlt : k < 18
    · have hki : (k : Int) < 18 := by omega
      have C := hid (has_any Ad (.iface t p) ls d wr (HE.out.later HB.out) (Tr.later HT.out HB.out) hd k hlt)
      have ST := hid (firstK_step (ns := ls.map Prod.snd) hlt)
      by_cases hm : k + 1 ∈ ls.map Prod.snd
      · rw [decide_eq_true hm] at C
        have R : Hid (numOf (ls.map Prod.snd) = (k : Int) + 1) := by
          show numOf _ = _
          unfold numOf
          rw [HF.out, ST.out, if_pos hm, if_pos hlt]
        clear hm ST
        go_wp2_with fail
        refine C.out.mono ?_
        rintro e w3 ⟨rfl, hb3⟩
        have B3 := hid (HB.out.trans (hb3.mono HB.out.size))
        clear hb3
        go_wp2_with fail
        go_ret
        exact ⟨by rw [R.out]; rfl, B3.out⟩
      · rw [decide_eq_false hm] at C
        have R : Hid (firstK (ls.map Prod.snd) 18 0 = firstK (ls.map Prod.snd) (18 - (k + 1)) (k + 1)) := by
          show firstK _ _ _ = _
          rw [HF.out, ST.out, if_neg hm]
        clear hm ST
        go_wp2_with fail
        refine C.out.mono ?_
        rintro e w3 ⟨rfl, hb3⟩
        have B3 := hid (HB.out.trans (hb3.mono HB.out.size))
        clear hb3
        go_wp2_with fail
        go_roundw
        case rel => exact ⟨k + 1, by omega, by congr 1, R.out, B3.out⟩
        case measure => simp [intOf]; omega
    · have hki : ¬ (k : Int) < 18 := by omega
      have R : Hid (numOf (ls.map Prod.snd) = -1) := by
        show numOf _ = _
        unfold numOf
        rw [HF.out, show 18 - k = 0 by omega]
        show (if k < 18 then (k : Int) + 1 else -1) = -1
        rw [if_neg hlt]
      go_wp2_with fail
      go_ret
      exact ⟨by rw [R.out]; rfl, HB.out⟩
set_option maxHeartbeats 800000 in
theorem number_nil (w : World) : Calls Tryd.prog 32 #[.nilIface] w fun e w' => e = .returned (.int .i64 0) ∧ w' = w := by
  go_enter Tryd.func32, Tryd.ntmps32
  go_wp2
  go_ret
  exact ⟨rfl, rfl⟩
end Go.Proofs.YtkhhiddemihnbaaDoor
