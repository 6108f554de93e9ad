/- For Check: an error at its way. -/
import Derived.Test.YtkhhiddemihnbaaDoorCwCa
import Derived.Test.YtkhhiddemihnbaaDoorCwCc
import Derived.Test.YtkhhiddemihnbaaDoorShelf
namespace Go.Proofs.YtkhhiddemihnbaaDoor.Cw
open Go.RowKit Go.Shelf
def errV (Ad : Nat → Addr) : List Nat → Value
  | [] => .nilIface
  | k :: _ => .iface 163 (.pointer (some (Ad k)))
theorem itoa_any (i : Nat) (hi : i < 100) (w : World) : Calls Tryd.prog 46 #[.int .i64 (i : Int)] w fun e w' => e = .returned (.string (dig i)) ∧ w' = w := Tryd.strconv_Itoa_small i hi w
theorem sent_chn (Ad : Nat → Addr) (n₀ k : Nat) (W : World) (hk : 1 ≤ k ∧ k ≤ 18) : Chn Ad n₀ W 0 (.iface 163 (.pointer (some (Ad k)))) ([], k) := ⟨rfl, hk.1, hk.2, Nat.le_refl _⟩
set_option maxHeartbeats 800000 in
theorem wayat_any (Ad : Nat → Addr) (W : World) (p : ByteArray) (i : Nat) (hi : i < 100) (ns : List Nat) (hn : ns.length ≤ 1 ∧ ∀ k ∈ ns, 1 ≤ k ∧ k ≤ 18) :
    Calls Tryd.prog 27 #[.int .i64 (i : Int), .string p, errV Ad ns] W fun e W' => ∃ v', e = .returned v' ∧ Sc.One Ad W'.heap.size W' v' (at4 i p ns) ∧ Below W.heap.size W W' := by
  have IT := hid (itoa_any i hi W)
  obtain ⟨hl, hn⟩ := hn
  match ns, hl, hn with
  | [], _, _ =>
    have A0 := hid (at_nil p W)
    have A1 := hid (at_nil (dig i) W)
    have A2 := hid (at_nil wC W)
    unfold wC at A2
    unfold errV
    go_enter Tryd.func27, Tryd.ntmps27
    go_wp2_with fail
    refine IT.out.mono ?_
    rintro e w1 ⟨rfl, rfl⟩
    go_wp2_with fail
    refine A0.out.mono ?_
    rintro e w2 ⟨rfl, rfl⟩
    go_wp2_with fail
    refine A1.out.mono ?_
    rintro e w3 ⟨rfl, rfl⟩
    go_wp2_with fail
    refine A2.out.mono ?_
    rintro e w4 ⟨rfl, rfl⟩
    go_wp2_with fail
    go_ret
    exact ⟨_, rfl, .inl ⟨rfl, rfl⟩, Below.refl _ _⟩
  | [k], _, hn =>
    have hk := hn k (by simp)
    have A0 := hid (at_chain Ad p 0 _ _ W (sent_chn Ad W.heap.size k W hk))
    clear hn hk
    unfold errV
    go_enter Tryd.func27, Tryd.ntmps27
    go_wp2_with fail
    refine IT.out.mono ?_
    rintro e w1 ⟨rfl, rfl⟩
    go_wp2_with fail
    refine A0.out.mono ?_
    rintro e w2 ⟨v2, rfl, h2, b2⟩
    have A1 := hid (at_chain Ad (dig i) _ _ _ w2 h2)
    have B2 := hid b2
    clear h2 b2 A0
    go_wp2_with fail
    refine A1.out.mono ?_
    rintro e w3 ⟨v3, rfl, h3, b3⟩
    have A2 := hid (at_chain Ad wC _ _ _ w3 h3)
    unfold wC at A2
    have B3 := hid (B2.out.trans (b3.mono B2.out.size))
    clear h3 b3 A1 B2
    go_wp2_with fail
    refine A2.out.mono ?_
    rintro e w4 ⟨v4, rfl, h4, b4⟩
    have H4 := hid h4
    have B4 := hid (B3.out.trans (b4.mono B3.out.size))
    clear h4 b4 A2 B3
    go_wp2_with fail
    go_ret
    exact ⟨_, rfl, .inr ⟨_, rfl, H4.out⟩, B4.out⟩
  | _ :: _ :: _, h, _ => simp at h
end Go.Proofs.YtkhhiddemihnbaaDoor.Cw
