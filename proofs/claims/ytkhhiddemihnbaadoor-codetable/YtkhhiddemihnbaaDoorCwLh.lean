/- CodeTable. -/
import Derived.Test.YtkhhiddemihnbaaDoorCwLd
import Derived.Test.YtkhhiddemihnbaaDoorCwLf
import Derived.Test.YtkhhiddemihnbaaDoorCwLi
namespace Go.Proofs.YtkhhiddemihnbaaDoor.Cw
open Go.RowKit Go.Shelf
set_option maxHeartbeats 800000 in
theorem table_law (W : World) (Ad : Nat → Addr) (hO : OpsAt W) (hE : Env8 W Ad) (op : Int) (s : ByteArray) : Calls Tryd.prog 3 #[.int .i64 op, .string s] W fun e W' => e = .returned (.bool true) ∧ Below W.heap.size W W' := by
  by_cases h100 : (100 : Int) < (s.size : Int)
  · have AW := hid (awake_any W Ad hO hE)
    clear hO hE
    go_enter Tryd.func3, Tryd.ntmps3
    go_wp2_with fail
    refine AW.out.mono ?_
    rintro e w1 ⟨rfl, b1⟩
    have B1 := hid b1
    clear b1 AW
    go_wp2_with fail
    go_ret
    exact ⟨rfl, B1.out⟩
  · obtain ⟨kb, x20, x21, x35, jb, ob, hk, h20, h21, h35, hj, ho, h | h | h | h | h⟩ := op_cases op
    · exact table_b W Ad hO hE op s h100 kb x20 x21 x35 jb ob hk h20 h21 h35 hj ho h
    · exact table_a W Ad hO hE op s h100 kb x20 x21 x35 jb ob hk h20 h21 h35 hj ho (.inl h)
    · exact table_a W Ad hO hE op s h100 kb x20 x21 x35 jb ob hk h20 h21 h35 hj ho (.inr (.inl h))
    · exact table_a W Ad hO hE op s h100 kb x20 x21 x35 jb ob hk h20 h21 h35 hj ho (.inr (.inr h))
    · exact table_c W Ad hO hE op s h100 kb x20 x21 x35 jb ob hk h20 h21 h35 hj ho h
end Go.Proofs.YtkhhiddemihnbaaDoor.Cw
