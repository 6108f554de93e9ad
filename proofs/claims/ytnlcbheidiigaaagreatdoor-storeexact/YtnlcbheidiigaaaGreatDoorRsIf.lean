/- A part of StoreExact. -/
import Derived.Test.YtnlcbheidiigaaaGreatDoorRsIe
import Derived.Test.YtnlcbheidiigaaaGreatDoorRsId
namespace Go.Proofs.YtnlcbheidiigaaaGreatDoor
namespace Rs
open Go.RowKit Go.Shelf Go.Maps
set_option maxRecDepth 1000000 in
theorem round_all (w2 : World) (Ad : Nat → Addr) (sb ub : Nat) (ca : Option Addr) (cc : Nat) (xs : List AX) (hA : AR w2 (.slice ca xs.length cc) xs) (hE2 : Env w2 Ad) (hG0 : ∀ (i : Nat) x, i < 150 → xs[i]? = some x → x.l.length ≤ 30) (n : Nat) (a : Act) (w : World) (h : WI w2 sb ub ca cc xs n a w) (J : Nat → Act → World → Prop) (K0 : Act → World → Prop) (Q : Exit → Act → World → Prop) (hJ : ∀ k a' w', WI w2 sb ub ca cc xs k a' w' → J k a' w') (hK0 : ∀ a' w', Go.Handed J n a' w' → K0 a' w') (hX : ∀ a' w', WX w2 sb ub ca cc xs a' w' → Q (.exit 0) a' w') : Code.wp Tryz.prog body1 (Exit.then K0 Q) a w := by
 obtain ⟨u, q, ga, gc, gl, s, hR, rfl⟩ := h
 by_cases h1 : q < xs.length
 ·by_cases h2 : q < 150
  ·obtain ⟨x, hx⟩ := at_lt xs q h1
   obtain ⟨b, o, rfl⟩ : ∃ b o, ca = some ⟨b, o, none⟩ := by
    obtain ⟨a', c', hv, -, h⟩ := hA
    have e := (Value.slice.inj hv).1
    rcases h with h | ⟨b, o, h4, -⟩
    ·rw [h] at h1; simp at h1
    ·exact ⟨b, o, by rw [e, h4]⟩
   exact round_in w2 Ad sb ub b o cc xs hA hE2 hG0 u q ga gc gl s w hR h1 h2 x hx J K0 Q hJ hK0
  ·exact exit_2 w2 sb ub ca cc xs u q ga gc gl s w hR h1 h2 K0 Q hX
 ·exact exit_1 w2 sb ub ca cc xs u q ga gc gl s w hR h1 K0 Q hX
end Rs
end Go.Proofs.YtnlcbheidiigaaaGreatDoor
