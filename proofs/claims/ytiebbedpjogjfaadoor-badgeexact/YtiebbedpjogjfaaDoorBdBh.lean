/- Badges: above, Turn. -/
import Derived.Test.YtiebbedpjogjfaaDoorBdBg
namespace Go.Proofs.YtiebbedpjogjfaaDoor.Bd
open Go.RowKit Go.Shelf Go.Maps
theorem same_key {x y : Int} : (Lit.int .i64 x).sameKey (.int .i64 y) = decide (x = y) := by simp [Lit.sameKey]
section
variable {Ad : Nat → Addr} {B : Nat} {W : World} {bb ob nb : Nat} {n : Int} {l : Prs}
set_option maxHeartbeats 3200000 in
set_option maxRecDepth 100000 in
theorem above_any (h : Bg B W bb ob nb n l) (next : Int) :
    Calls Tryd.prog 32 #[.pointer (some ⟨bb, 0, none⟩), .int .i64 next] W fun e W' => e = .returned (.bool (decide (∀ x ∈ l, x.1 < next))) ∧ Below W.heap.size W W' := by
  have c0 := h.c0
  obtain ⟨D, hown, hH⟩ := h.m1
  have htm := hown.lt
  have HH := hid hH
  have HO := hid h.ok
  obtain ⟨nn, hnn⟩ : ∃ nn, nn = Maps.size D := ⟨_, rfl⟩
  rw [← hnn] at hown
  obtain ⟨res, hres⟩ : ∃ res, res = decide (∀ x ∈ l, x.1 < next) := ⟨_, rfl⟩
  rw [← hres]
  have HRS := hid hres
  clear h hH hnn hres
  go_enter Tryd.func32, Tryd.ntmps32
  go_wp2_with (first
    | (at_range; refine wpList_range_own _ rfl _ 60 rfl 3 29 keyed3 Tryd.underlying60 entElem ob nn D rfl hown ?_; intro w0 hrg0 hg0 hs0)
    | fail)
  go_frame
  have B0 : Hid (Below W.heap.size W w0) := ⟨hg0.os, hg0.tape, hg0.output, hg0.size, fun k hk => hg0.block k hk (by simp)⟩
  have hsz0 : W.heap.size + 1 ≤ w0.heap.size := by omega
  have RG0 := hid hrg0
  clear hrg0 hg0 hs0 hown c0
  have H0 : Hid (∀ x ∈ l, Maps.has D (.int .i64 x.1) = false → x.1 < next) := fun x hx q => by
    have hw := (HO.out.who x.1 x.2).2 hx
    have := HO.out.low x hx
    have hn := HO.out.next
    have e := (HH.out.1 x.1 (I64_mid (by omega) (by omega))).1
    rw [hw, q] at e
    cases e
  go_loopg [5] (Maps.size D) (fun gh _ wr => ∃ left : Lit → Bool, Hid (wr.ranges Tryd.prog 3 entElem ob W.heap.size nn D left gh) ∧ Hid (∀ x ∈ l, left (.int .i64 x.1) = false → x.1 < next) ∧ Hid (Below W.heap.size W wr) ∧ W.heap.size + 1 ≤ wr.heap.size)
  case atStart => exact ⟨_, RG0.out, H0.out, B0.out, hsz0⟩
  case round =>
    rename World => wr
    obtain ⟨left, HR, HL, HB, hsz⟩ := hrel
    have hrg := HR.out
    go_wp2_with (first
      | (at_next; refine wpList_next_ranges _ rfl _ rfl 3 keyed3 entElem (Value.int .i64) (fun c : Int × Int => entV c.1 c.2) (fun key kl hkey => by obtain ⟨x, rfl, _⟩ := Maps.keyOf_int_inv Tryd.underlying3 hkey; exact ⟨x, rfl⟩) (fun v y hv => by obtain ⟨i, g, rfl, _⟩ := entElem_inv hv; exact ⟨(i, g), rfl⟩) ob W.heap.size nn D left _ rfl hrg ?_ ?_)
      | fail)
    · intro hc0 hl0
      have hr : res = true := by
        rw [HRS.out]
        exact decide_eq_true fun x hx => HL.out x hx (hl0 _)
      subst hr
      clear hrg hl0 hc0
      go_wp2_with fail
      go_ret
      exact ⟨rfl, HB.out⟩
    · intro x o1 o2 kl y ps w1 cnt1 hkey hleft hR hat hrg1 hlt hg1 hs1 hen
      have B1 : Below W.heap.size W w1 := HB.out.trans ⟨hg1.os, hg1.tape, hg1.output, hg1.size, fun k hk => hg1.block k (by omega) (by simp; omega)⟩
      have HB1 := hid B1
      obtain ⟨x', e1, rfl, hw⟩ := Maps.keyOf_int_inv Tryd.underlying3 hkey
      obtain rfl : x = x' := by simpa using e1
      have hin : ∃ e, (x, e) ∈ l := by
        have q := (HH.out.1 x hw).1
        rw [has_true_of_atKey hat] at q
        obtain ⟨e, he⟩ := Option.isSome_iff_exists.1 q.symm
        exact ⟨e, (HO.out.who x e).1 he⟩
      have HIN := hid hin
      have RG1 := hid hrg1
      have HLT := hid hlt
      have hsz1 : W.heap.size + 1 ≤ w1.heap.size := by omega
      by_cases hge : next ≤ x
      · have hr : res = false := by
          rw [HRS.out]
          obtain ⟨e, he⟩ := HIN.out
          exact decide_eq_false fun q => by have := q _ he; simp at this; omega
        subst hr
        have hgi : x ≥ next := hge
        clear hrg hin hkey hleft hR hat hrg1 hlt hg1 hs1 B1
        go_wp2_with fail
        go_ret
        exact ⟨rfl, HB1.out⟩
      · have hgi : ¬ x ≥ next := hge
        have NL : Hid (∀ z ∈ l, (left (.int .i64 z.1) && !(Lit.int .i64 z.1).sameKey (.int .i64 x)) = false → z.1 < next) := fun z hz q => by
          by_cases e : z.1 = x
          · rw [e]; omega
          · refine HL.out z hz ?_
            rw [same_key, decide_eq_false e] at q
            simpa using q
        clear hrg hin hkey hleft hR hat hrg1 hlt hg1 hs1 B1
        go_wp2_with fail
        go_roundg cnt1
        case measure => exact HLT.out
        case rel => exact ⟨_, RG1.out, NL.out, HB1.out, hsz1⟩
end
end Go.Proofs.YtiebbedpjogjfaaDoor.Bd
