/- checkA. -/
import Derived.Test.YtkhhiddemihnbaaDoorCwCd
namespace Go.Proofs.YtkhhiddemihnbaaDoor.Cw
open Go.RowKit Go.Shelf
theorem env_cell {Ad : Nat → Addr} {W : World} (hE : Env8 W Ad) : W.cell? ⟨4, 0, none⟩ = some (.iface 163 (.pointer (some (Ad 1)))) ∧ W.cell? ⟨5, 0, none⟩ = some (.iface 163 (.pointer (some (Ad 13)))) := ⟨hE.cell 1 (by decide) (by decide), hE.cell 13 (by decide) (by decide)⟩
/-- What a check reads lies there. -/
structure Had (Ad : Nat → Addr) (B : Nat) (va vb : Value) (x : Ins) (W : World) : Prop where
  s0 : W.cell? ⟨B, 0, none⟩ = some va
  s1 : W.cell? ⟨B, 1, none⟩ = some vb
  i0 : W.cell? ⟨B + 1, 0, none⟩ = some (.int .i64 x.1)
  i1 : W.cell? ⟨B + 1, 1, none⟩ = some (.int .i64 x.2.1)
  i2 : W.cell? ⟨B + 1, 2, none⟩ = some (.int .i64 x.2.2)
  e1 : W.cell? ⟨4, 0, none⟩ = some (.iface 163 (.pointer (some (Ad 1))))
  e13 : W.cell? ⟨5, 0, none⟩ = some (.iface 163 (.pointer (some (Ad 13))))
theorem Had.later {Ad : Nat → Addr} {B : Nat} {va vb : Value} {x : Ins} {W W' : World} (h : Had Ad B va vb x W) (hb : Below W.heap.size W W') : Had Ad B va vb x W' :=
  have S := fun {p : Addr} {u : Value} (h : W.cell? p = some u) => seen hb (Nat.le_refl _) h
  ⟨S h.s0, S h.s1, S h.i0, S h.i1, S h.i2, S h.e1, S h.e13⟩
theorem had_new {Ad : Nat → Addr} {W : World} (hE : Env8 W Ad) (va vb : Value) (x : Ins) : Had Ad W.heap.size va vb x ((W.alloc (.cells #[va, vb] 39)).alloc (.cells #[.int .i64 x.1, .int .i64 x.2.1, .int .i64 x.2.2] 59)) ∧ Below W.heap.size W ((W.alloc (.cells #[va, vb] 39)).alloc (.cells #[.int .i64 x.1, .int .i64 x.2.1, .int .i64 x.2.2] 59)) := by
  have b1 := bAl W (.cells #[va, vb] 39)
  have b2 := bAl (W.alloc (.cells #[va, vb] 39)) (.cells #[.int .i64 x.1, .int .i64 x.2.1, .int .i64 x.2.2] 59)
  have bb := b1.trans (b2.mono b1.size)
  have hE2 := env_cell (hE.later bb)
  have n1 := heap_alloc_new W (.cells #[va, vb] 39)
  have n2 := heap_alloc_new (W.alloc (.cells #[va, vb] 39)) (.cells #[.int .i64 x.1, .int .i64 x.2.1, .int .i64 x.2.2] 59)
  have e : (W.alloc (.cells #[va, vb] 39)).heap.size = W.heap.size + 1 := by simp
  have n3 := blk_seen b2 (Nat.le_refl _) n1
  rw [e] at n2
  exact ⟨⟨cell_blk n3 rfl, cell_blk n3 rfl, cell_blk n2 rfl, cell_blk n2 rfl, cell_blk n2 rfl, hE2.1, hE2.2⟩, bb⟩
variable (Ad : Nat → Addr) (W : World) (cs : List Cmp) (rs : List Rsc) (m : Nat) (a b : Int)
set_option maxHeartbeats 1600000 in
set_option maxRecDepth 100000 in
theorem cka_1 (hE : Env8 W Ad) (sa ta : Option Addr) (sc tc : Nat) (hl : cs.length ≤ 1000) (hr : rs.length ≤ 1000) :
    Calls Tryd.prog 47 #[.agg #[.slice sa cs.length sc, .slice ta rs.length tc], .agg #[.int .i64 1, .int .i64 a, .int .i64 b], .int .i64 (m : Int)] W fun e W' => e = .returned (errV Ad (aNs cs rs m (1, a, b))) ∧ Below W.heap.size W W' := by
  rw [show aNs cs rs m (1, a, b) = [] by simp [aNs, aOk]]
  have HN := hid (had_new hE (.slice sa cs.length sc) (.slice ta rs.length tc) (1, a, b))
  have hcl : (cs.length : Int) ≤ 1000 := by omega
  have hrl : (rs.length : Int) ≤ 1000 := by omega
  clear hE
  go_enter Tryd.func47, Tryd.ntmps47
  go_upto_region 1 with fail
  obtain ⟨w2, hw2⟩ : ∃ w2, w2 = (W.alloc (.cells #[.slice sa cs.length sc, .slice ta rs.length tc] 39)).alloc (.cells #[.int .i64 1, .int .i64 a, .int .i64 b] 59) := ⟨_, rfl⟩
  have HN2 : Hid (Had Ad W.heap.size (.slice sa cs.length sc) (.slice ta rs.length tc) (1, a, b) w2 ∧ Below W.heap.size W w2) := by rw [hw2]; exact HN.out
  rw [← hw2]
  clear hw2 HN
  obtain ⟨c0, c1, i0, i1, i2, e1, e13⟩ := HN2.out.1
  simp only [] at i0 i1 i2
  go_wp2_with fail
  go_ret
  exact ⟨rfl, HN2.out.2⟩
set_option maxHeartbeats 1600000 in
set_option maxRecDepth 100000 in
theorem cka_20 (hE : Env8 W Ad) (sa ta : Option Addr) (sc tc : Nat) (hl : cs.length ≤ 1000) (hr : rs.length ≤ 1000) :
    Calls Tryd.prog 47 #[.agg #[.slice sa cs.length sc, .slice ta rs.length tc], .agg #[.int .i64 20, .int .i64 a, .int .i64 b], .int .i64 (m : Int)] W fun e W' => e = .returned (errV Ad (aNs cs rs m (20, a, b))) ∧ Below W.heap.size W W' := by
  have EA : aNs cs rs m (20, a, b) = if isPl a m then [] else [13] := by simp [aNs, aOk, jmp]
  cases hq : isPl a m
  all_goals
    rw [EA, hq]
    clear EA
    have UN := hid (fun q (v : Value) W' => unless_any q v W')
    have PC := hid (fun W' => isplace_any a (m : Int) W')
    rw [← isPl_of, hq] at PC
    have HN := hid (had_new hE (.slice sa cs.length sc) (.slice ta rs.length tc) (20, a, b))
    have hcl : (cs.length : Int) ≤ 1000 := by omega
    have hrl : (rs.length : Int) ≤ 1000 := by omega
    clear hE
    go_enter Tryd.func47, Tryd.ntmps47
    go_upto_region 1 with fail
    obtain ⟨w2, hw2⟩ : ∃ w2, w2 = (W.alloc (.cells #[.slice sa cs.length sc, .slice ta rs.length tc] 39)).alloc (.cells #[.int .i64 20, .int .i64 a, .int .i64 b] 59) := ⟨_, rfl⟩
    have HN2 : Hid (Had Ad W.heap.size (.slice sa cs.length sc) (.slice ta rs.length tc) (20, a, b) w2 ∧ Below W.heap.size W w2) := by rw [hw2]; exact HN.out
    rw [← hw2]
    clear hw2 HN
    obtain ⟨c0, c1, i0, i1, i2, e1, e13⟩ := HN2.out.1
    simp only [] at i0 i1 i2
    clear hq
    go_wp2_with fail
    go_quiet ((first | (go_at_call 57; exact Calls.quiet_of_same (PC.out _)) | (go_at_call 48; exact Calls.quiet_of_same (UN.out _ _ _))))
    go_wp2_with fail
    go_ret
    exact ⟨rfl, by first | exact HN2.out.2 | exact Bq HN2.out.2 _⟩
set_option maxHeartbeats 1600000 in
set_option maxRecDepth 100000 in
theorem cka_21 (hE : Env8 W Ad) (sa ta : Option Addr) (sc tc : Nat) (hl : cs.length ≤ 1000) (hr : rs.length ≤ 1000) :
    Calls Tryd.prog 47 #[.agg #[.slice sa cs.length sc, .slice ta rs.length tc], .agg #[.int .i64 21, .int .i64 a, .int .i64 b], .int .i64 (m : Int)] W fun e W' => e = .returned (errV Ad (aNs cs rs m (21, a, b))) ∧ Below W.heap.size W W' := by
  have EA : aNs cs rs m (21, a, b) = if isPl a m then [] else [13] := by simp [aNs, aOk, jmp]
  cases hq : isPl a m
  all_goals
    rw [EA, hq]
    clear EA
    have UN := hid (fun q (v : Value) W' => unless_any q v W')
    have PC := hid (fun W' => isplace_any a (m : Int) W')
    rw [← isPl_of, hq] at PC
    have HN := hid (had_new hE (.slice sa cs.length sc) (.slice ta rs.length tc) (21, a, b))
    have hcl : (cs.length : Int) ≤ 1000 := by omega
    have hrl : (rs.length : Int) ≤ 1000 := by omega
    clear hE
    go_enter Tryd.func47, Tryd.ntmps47
    go_upto_region 1 with fail
    obtain ⟨w2, hw2⟩ : ∃ w2, w2 = (W.alloc (.cells #[.slice sa cs.length sc, .slice ta rs.length tc] 39)).alloc (.cells #[.int .i64 21, .int .i64 a, .int .i64 b] 59) := ⟨_, rfl⟩
    have HN2 : Hid (Had Ad W.heap.size (.slice sa cs.length sc) (.slice ta rs.length tc) (21, a, b) w2 ∧ Below W.heap.size W w2) := by rw [hw2]; exact HN.out
    rw [← hw2]
    clear hw2 HN
    obtain ⟨c0, c1, i0, i1, i2, e1, e13⟩ := HN2.out.1
    simp only [] at i0 i1 i2
    clear hq
    go_wp2_with fail
    go_quiet ((first | (go_at_call 57; exact Calls.quiet_of_same (PC.out _)) | (go_at_call 48; exact Calls.quiet_of_same (UN.out _ _ _))))
    go_wp2_with fail
    go_ret
    exact ⟨rfl, by first | exact HN2.out.2 | exact Bq HN2.out.2 _⟩
set_option maxHeartbeats 1600000 in
set_option maxRecDepth 100000 in
theorem cka_25 (hE : Env8 W Ad) (sa ta : Option Addr) (sc tc : Nat) (hl : cs.length ≤ 1000) (hr : rs.length ≤ 1000) :
    Calls Tryd.prog 47 #[.agg #[.slice sa cs.length sc, .slice ta rs.length tc], .agg #[.int .i64 25, .int .i64 a, .int .i64 b], .int .i64 (m : Int)] W fun e W' => e = .returned (errV Ad (aNs cs rs m (25, a, b))) ∧ Below W.heap.size W W' := by
  have EA : aNs cs rs m (25, a, b) = if inN a 2 then [] else [1] := by simp [aNs, aOk, jmp]
  cases hq : inN a 2
  all_goals
    rw [EA, hq]
    clear EA
    have UN := hid (fun q (v : Value) W' => unless_any q v W')
    have PC := hid (fun W' => below_any a 2 W')
    rw [show (decide (0 ≤ a) && decide (a < 2)) = inN a 2 from rfl, hq] at PC
    have HN := hid (had_new hE (.slice sa cs.length sc) (.slice ta rs.length tc) (25, a, b))
    have hcl : (cs.length : Int) ≤ 1000 := by omega
    have hrl : (rs.length : Int) ≤ 1000 := by omega
    clear hE
    go_enter Tryd.func47, Tryd.ntmps47
    go_upto_region 1 with fail
    obtain ⟨w2, hw2⟩ : ∃ w2, w2 = (W.alloc (.cells #[.slice sa cs.length sc, .slice ta rs.length tc] 39)).alloc (.cells #[.int .i64 25, .int .i64 a, .int .i64 b] 59) := ⟨_, rfl⟩
    have HN2 : Hid (Had Ad W.heap.size (.slice sa cs.length sc) (.slice ta rs.length tc) (25, a, b) w2 ∧ Below W.heap.size W w2) := by rw [hw2]; exact HN.out
    rw [← hw2]
    clear hw2 HN
    obtain ⟨c0, c1, i0, i1, i2, e1, e13⟩ := HN2.out.1
    simp only [] at i0 i1 i2
    clear hq
    go_wp2_with fail
    go_quiet ((first | (go_at_call 45; exact Calls.quiet_of_same (PC.out _)) | (go_at_call 48; exact Calls.quiet_of_same (UN.out _ _ _))))
    go_wp2_with fail
    go_ret
    exact ⟨rfl, by first | exact HN2.out.2 | exact Bq HN2.out.2 _⟩
set_option maxHeartbeats 1600000 in
set_option maxRecDepth 100000 in
theorem cka_26 (hE : Env8 W Ad) (sa ta : Option Addr) (sc tc : Nat) (hl : cs.length ≤ 1000) (hr : rs.length ≤ 1000) :
    Calls Tryd.prog 47 #[.agg #[.slice sa cs.length sc, .slice ta rs.length tc], .agg #[.int .i64 26, .int .i64 a, .int .i64 b], .int .i64 (m : Int)] W fun e W' => e = .returned (errV Ad (aNs cs rs m (26, a, b))) ∧ Below W.heap.size W W' := by
  have EA : aNs cs rs m (26, a, b) = if inN a rs.length then [] else [1] := by simp [aNs, aOk, jmp]
  cases hq : inN a rs.length
  all_goals
    rw [EA, hq]
    clear EA
    have UN := hid (fun q (v : Value) W' => unless_any q v W')
    have PC := hid (fun W' => below_any a (rs.length : Int) W')
    rw [show (decide (0 ≤ a) && decide (a < (rs.length : Int))) = inN a rs.length from rfl, hq] at PC
    have HN := hid (had_new hE (.slice sa cs.length sc) (.slice ta rs.length tc) (26, a, b))
    have hcl : (cs.length : Int) ≤ 1000 := by omega
    have hrl : (rs.length : Int) ≤ 1000 := by omega
    clear hE
    go_enter Tryd.func47, Tryd.ntmps47
    go_upto_region 1 with fail
    obtain ⟨w2, hw2⟩ : ∃ w2, w2 = (W.alloc (.cells #[.slice sa cs.length sc, .slice ta rs.length tc] 39)).alloc (.cells #[.int .i64 26, .int .i64 a, .int .i64 b] 59) := ⟨_, rfl⟩
    have HN2 : Hid (Had Ad W.heap.size (.slice sa cs.length sc) (.slice ta rs.length tc) (26, a, b) w2 ∧ Below W.heap.size W w2) := by rw [hw2]; exact HN.out
    rw [← hw2]
    clear hw2 HN
    obtain ⟨c0, c1, i0, i1, i2, e1, e13⟩ := HN2.out.1
    simp only [] at i0 i1 i2
    clear hq
    go_wp2_with fail
    go_quiet ((first | (go_at_call 45; exact Calls.quiet_of_same (PC.out _)) | (go_at_call 48; exact Calls.quiet_of_same (UN.out _ _ _))))
    go_wp2_with fail
    go_ret
    exact ⟨rfl, by first | exact HN2.out.2 | exact Bq HN2.out.2 _⟩
set_option maxHeartbeats 1600000 in
set_option maxRecDepth 100000 in
theorem cka_27 (hE : Env8 W Ad) (sa ta : Option Addr) (sc tc : Nat) (hl : cs.length ≤ 1000) (hr : rs.length ≤ 1000) :
    Calls Tryd.prog 47 #[.agg #[.slice sa cs.length sc, .slice ta rs.length tc], .agg #[.int .i64 27, .int .i64 a, .int .i64 b], .int .i64 (m : Int)] W fun e W' => e = .returned (errV Ad (aNs cs rs m (27, a, b))) ∧ Below W.heap.size W W' := by
  have EA : aNs cs rs m (27, a, b) = if inN a rs.length then [] else [1] := by simp [aNs, aOk, jmp]
  cases hq : inN a rs.length
  all_goals
    rw [EA, hq]
    clear EA
    have UN := hid (fun q (v : Value) W' => unless_any q v W')
    have PC := hid (fun W' => below_any a (rs.length : Int) W')
    rw [show (decide (0 ≤ a) && decide (a < (rs.length : Int))) = inN a rs.length from rfl, hq] at PC
    have HN := hid (had_new hE (.slice sa cs.length sc) (.slice ta rs.length tc) (27, a, b))
    have hcl : (cs.length : Int) ≤ 1000 := by omega
    have hrl : (rs.length : Int) ≤ 1000 := by omega
    clear hE
    go_enter Tryd.func47, Tryd.ntmps47
    go_upto_region 1 with fail
    obtain ⟨w2, hw2⟩ : ∃ w2, w2 = (W.alloc (.cells #[.slice sa cs.length sc, .slice ta rs.length tc] 39)).alloc (.cells #[.int .i64 27, .int .i64 a, .int .i64 b] 59) := ⟨_, rfl⟩
    have HN2 : Hid (Had Ad W.heap.size (.slice sa cs.length sc) (.slice ta rs.length tc) (27, a, b) w2 ∧ Below W.heap.size W w2) := by rw [hw2]; exact HN.out
    rw [← hw2]
    clear hw2 HN
    obtain ⟨c0, c1, i0, i1, i2, e1, e13⟩ := HN2.out.1
    simp only [] at i0 i1 i2
    clear hq
    go_wp2_with fail
    go_quiet ((first | (go_at_call 45; exact Calls.quiet_of_same (PC.out _)) | (go_at_call 48; exact Calls.quiet_of_same (UN.out _ _ _))))
    go_wp2_with fail
    go_ret
    exact ⟨rfl, by first | exact HN2.out.2 | exact Bq HN2.out.2 _⟩
set_option maxHeartbeats 1600000 in
set_option maxRecDepth 100000 in
theorem cka_23 (hE : Env8 W Ad) (sa ta : Option Addr) (sc tc : Nat) (hl : cs.length ≤ 1000) (hr : rs.length ≤ 1000) :
    Calls Tryd.prog 47 #[.agg #[.slice sa cs.length sc, .slice ta rs.length tc], .agg #[.int .i64 23, .int .i64 a, .int .i64 b], .int .i64 (m : Int)] W fun e W' => e = .returned (errV Ad (aNs cs rs m (23, a, b))) ∧ Below W.heap.size W W' := by
  have EA : aNs cs rs m (23, a, b) = if inN a cs.length then [] else [1] := by simp [aNs, aOk, jmp]
  cases hq : inN a cs.length
  all_goals
    rw [EA, hq]
    clear EA
    have UN := hid (fun q (v : Value) W' => unless_any q v W')
    have PC := hid (fun W' => below_any a (cs.length : Int) W')
    rw [show (decide (0 ≤ a) && decide (a < (cs.length : Int))) = inN a cs.length from rfl, hq] at PC
    have HN := hid (had_new hE (.slice sa cs.length sc) (.slice ta rs.length tc) (23, a, b))
    have hcl : (cs.length : Int) ≤ 1000 := by omega
    have hrl : (rs.length : Int) ≤ 1000 := by omega
    clear hE
    go_enter Tryd.func47, Tryd.ntmps47
    go_upto_region 1 with fail
    obtain ⟨w2, hw2⟩ : ∃ w2, w2 = (W.alloc (.cells #[.slice sa cs.length sc, .slice ta rs.length tc] 39)).alloc (.cells #[.int .i64 23, .int .i64 a, .int .i64 b] 59) := ⟨_, rfl⟩
    have HN2 : Hid (Had Ad W.heap.size (.slice sa cs.length sc) (.slice ta rs.length tc) (23, a, b) w2 ∧ Below W.heap.size W w2) := by rw [hw2]; exact HN.out
    rw [← hw2]
    clear hw2 HN
    obtain ⟨c0, c1, i0, i1, i2, e1, e13⟩ := HN2.out.1
    simp only [] at i0 i1 i2
    clear hq
    go_wp2_with fail
    go_quiet ((first | (go_at_call 45; exact Calls.quiet_of_same (PC.out _)) | (go_at_call 48; exact Calls.quiet_of_same (UN.out _ _ _))))
    go_wp2_with fail
    go_ret
    exact ⟨rfl, by first | exact HN2.out.2 | exact Bq HN2.out.2 _⟩
set_option maxHeartbeats 1600000 in
set_option maxRecDepth 100000 in
theorem cka_33 (hE : Env8 W Ad) (sa ta : Option Addr) (sc tc : Nat) (hl : cs.length ≤ 1000) (hr : rs.length ≤ 1000) :
    Calls Tryd.prog 47 #[.agg #[.slice sa cs.length sc, .slice ta rs.length tc], .agg #[.int .i64 33, .int .i64 a, .int .i64 b], .int .i64 (m : Int)] W fun e W' => e = .returned (errV Ad (aNs cs rs m (33, a, b))) ∧ Below W.heap.size W W' := by
  have EA : aNs cs rs m (33, a, b) = if inN a cs.length then [] else [1] := by simp [aNs, aOk, jmp]
  cases hq : inN a cs.length
  all_goals
    rw [EA, hq]
    clear EA
    have UN := hid (fun q (v : Value) W' => unless_any q v W')
    have PC := hid (fun W' => below_any a (cs.length : Int) W')
    rw [show (decide (0 ≤ a) && decide (a < (cs.length : Int))) = inN a cs.length from rfl, hq] at PC
    have HN := hid (had_new hE (.slice sa cs.length sc) (.slice ta rs.length tc) (33, a, b))
    have hcl : (cs.length : Int) ≤ 1000 := by omega
    have hrl : (rs.length : Int) ≤ 1000 := by omega
    clear hE
    go_enter Tryd.func47, Tryd.ntmps47
    go_upto_region 1 with fail
    obtain ⟨w2, hw2⟩ : ∃ w2, w2 = (W.alloc (.cells #[.slice sa cs.length sc, .slice ta rs.length tc] 39)).alloc (.cells #[.int .i64 33, .int .i64 a, .int .i64 b] 59) := ⟨_, rfl⟩
    have HN2 : Hid (Had Ad W.heap.size (.slice sa cs.length sc) (.slice ta rs.length tc) (33, a, b) w2 ∧ Below W.heap.size W w2) := by rw [hw2]; exact HN.out
    rw [← hw2]
    clear hw2 HN
    obtain ⟨c0, c1, i0, i1, i2, e1, e13⟩ := HN2.out.1
    simp only [] at i0 i1 i2
    clear hq
    go_wp2_with fail
    go_quiet ((first | (go_at_call 45; exact Calls.quiet_of_same (PC.out _)) | (go_at_call 48; exact Calls.quiet_of_same (UN.out _ _ _))))
    go_wp2_with fail
    go_ret
    exact ⟨rfl, by first | exact HN2.out.2 | exact Bq HN2.out.2 _⟩
set_option maxHeartbeats 1600000 in
set_option maxRecDepth 100000 in
theorem cka_34 (hE : Env8 W Ad) (sa ta : Option Addr) (sc tc : Nat) (hl : cs.length ≤ 1000) (hr : rs.length ≤ 1000) :
    Calls Tryd.prog 47 #[.agg #[.slice sa cs.length sc, .slice ta rs.length tc], .agg #[.int .i64 34, .int .i64 a, .int .i64 b], .int .i64 (m : Int)] W fun e W' => e = .returned (errV Ad (aNs cs rs m (34, a, b))) ∧ Below W.heap.size W W' := by
  have EA : aNs cs rs m (34, a, b) = if inN a cs.length then [] else [1] := by simp [aNs, aOk, jmp]
  cases hq : inN a cs.length
  all_goals
    rw [EA, hq]
    clear EA
    have UN := hid (fun q (v : Value) W' => unless_any q v W')
    have PC := hid (fun W' => below_any a (cs.length : Int) W')
    rw [show (decide (0 ≤ a) && decide (a < (cs.length : Int))) = inN a cs.length from rfl, hq] at PC
    have HN := hid (had_new hE (.slice sa cs.length sc) (.slice ta rs.length tc) (34, a, b))
    have hcl : (cs.length : Int) ≤ 1000 := by omega
    have hrl : (rs.length : Int) ≤ 1000 := by omega
    clear hE
    go_enter Tryd.func47, Tryd.ntmps47
    go_upto_region 1 with fail
    obtain ⟨w2, hw2⟩ : ∃ w2, w2 = (W.alloc (.cells #[.slice sa cs.length sc, .slice ta rs.length tc] 39)).alloc (.cells #[.int .i64 34, .int .i64 a, .int .i64 b] 59) := ⟨_, rfl⟩
    have HN2 : Hid (Had Ad W.heap.size (.slice sa cs.length sc) (.slice ta rs.length tc) (34, a, b) w2 ∧ Below W.heap.size W w2) := by rw [hw2]; exact HN.out
    rw [← hw2]
    clear hw2 HN
    obtain ⟨c0, c1, i0, i1, i2, e1, e13⟩ := HN2.out.1
    simp only [] at i0 i1 i2
    clear hq
    go_wp2_with fail
    go_quiet ((first | (go_at_call 45; exact Calls.quiet_of_same (PC.out _)) | (go_at_call 48; exact Calls.quiet_of_same (UN.out _ _ _))))
    go_wp2_with fail
    go_ret
    exact ⟨rfl, by first | exact HN2.out.2 | exact Bq HN2.out.2 _⟩
end Go.Proofs.YtkhhiddemihnbaaDoor.Cw
