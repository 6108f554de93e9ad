/- Contracts of strand's reader: Flags. -/
import Derived.Test.YthngdaeiopgigaaDoorRf
import Derived.Test.YthngdaeiopgigaaDoorWg
namespace Go.Proofs.YthngdaeiopgigaaDoor
open Go.ChangeShapes Go.WideShapes Go.ChangeAt Go.RowKit
def lo (l : List UInt8) (n : Nat) : Bool := decide (0 < n % 8) && decide (0 < (l.getD (n / 8) 0).toNat / 2 ^ (n % 8))
theorem idx_getD (s : ByteArray) (i : Nat) (h : i < s.size) : ∀ w, (Instr.index 9 (.string s) (.int .i64 i)).run Tryd.prog w = .ok (.int .u8 (s.data.toList.getD i 0).toNat) w := by
  obtain ⟨c, hd, hx⟩ := idx_string s i h
  have : s.data.toList.getD i 0 = c := by
    have h2 : s.data.toList[i]? = some c := by rw [← List.head?_drop, hd]; rfl
    rw [List.getD_eq_getElem?_getD, h2]; rfl
  rw [this]; exact hx
theorem shr_cast (c k : Nat) : (c : Int) / 2 ^ k = ((c / 2 ^ k : Nat) : Int) := by
  rw [Int.natCast_ediv, Int.natCast_pow]; rfl
set_option maxHeartbeats 800000 in
set_option maxRecDepth 100000 in
theorem leftOver_any (s : ByteArray) (n : Nat) (hn : n ≤ 65536) (hk : (n + 7) / 8 ≤ s.size) (w : World) :
    Calls Tryd.prog 60 #[.string s, .int .i64 n] w fun e w' => e = .returned (.bool (lo s.data.toList n)) ∧ w = w' := by
  by_cases h : n % 8 = 0
  · rw [show lo s.data.toList n = false from by simp [lo, h]]
    have h1 : ¬ (0 < (n : Int) % 8) := by omega
    go_enter Tryd.func60, Tryd.ntmps60
    go_wp2
    go_ret
    exact ⟨rfl, rfl⟩
  · have hx := idx_getD s (n / 8) (by omega)
    rw [show (((n / 8 : Nat)) : Int) = (n : Int) / 8 from by omega] at hx
    rw [show lo s.data.toList n = decide (0 < (s.data.toList.getD (n / 8) 0).toNat / 2 ^ (n % 8)) from by simp [lo]; omega]
    have hc2 : (s.data.toList.getD (n / 8) 0).toNat < 256 := UInt8.toNat_lt _
    generalize (s.data.toList.getD (n / 8) 0).toNat = c at *
    have h1 : 0 < (n : Int) % 8 := by omega
    go_enter Tryd.func60, Tryd.ntmps60
    go_wp2
    go_ret
    refine ⟨?_, rfl⟩
    show Ending.returned (.bool (decide (0 < (c : Int) / 2 ^ (n % 8)))) = _
    rw [shr_cast]
    have : (0 < ((c / 2 ^ (n % 8) : Nat) : Int)) ↔ 0 < c / 2 ^ (n % 8) := by omega
    simp only [this]
def unpk (l : List UInt8) (n : Nat) : List Bool := (List.range n).map fun i => (l.getD (i / 8) 0).toNat / 2 ^ (i % 8) % 2 == 1
def RS.flags (aF : Addr) (n : Int) (st : RS) : List Bool × RS := match st.err with
  | some _ => ([], st)
  | none => if 0 ≤ n ∧ n ≤ 65536 ∧ (n.toNat + 7) / 8 ≤ st.rest.length ∧ lo st.rest n.toNat = false then (unpk st.rest n.toNat, ⟨st.rest.drop ((n.toNat + 7) / 8), none⟩) else ([], st.fail nmFlags aF)
theorem flagBytes_q (n : Nat) (h : n ≤ 10000000) (w : World) : Calls Tryd.prog 59 #[.int .i64 n] w fun e w' => e = .returned (.int .i64 ((n + 7) / 8 : Nat)) ∧ w' = w := (flagBytes_any n h w).mono (by rintro e w' ⟨h1, h2⟩; exact ⟨h1, h2.symm⟩)
theorem leftOver_q (s : ByteArray) (n : Nat) (hn : n ≤ 65536) (hk : (n + 7) / 8 ≤ s.size) (w : World) : Calls Tryd.prog 60 #[.string s, .int .i64 n] w fun e w' => e = .returned (.bool (lo s.data.toList n)) ∧ w' = w := (leftOver_any s n hn hk w).mono (by rintro e w' ⟨h1, h2⟩; exact ⟨h1, h2.symm⟩)
theorem Rd.drewN {w : World} {b : Nat} {st : RS} (h : Rd w b st) (n : Nat) : Rd (w.drewN n) b st := h
theorem cell_drewN {w : World} {p : Addr} {v : Value} (h : w.cell? p = some v) (n : Nat) : (w.drewN n).cell? p = some v := h
theorem Kp.from_drewN {X : Nat → Prop} {w w' : World} {n : Nat} (h : Kp X (w.drewN n) w') : Kp X w w' := ⟨h.os, h.tape, h.output, h.size, h.block⟩
set_option maxHeartbeats 1600000 in
set_option maxRecDepth 100000 in
theorem rflags_neg (b : Nat) (l : List UInt8) (n : Int) (aF : Addr) (w : World) (hR : Rd w b ⟨l, none⟩) (hp : RPre w ⟨l, none⟩ aF) (h : n < 0 ∨ 65536 < n) :
    Calls Tryd.prog 31 #[.pointer (some ⟨b, 0, none⟩), .int .i64 n] w fun e w' => e = .returned (.slice none 0 0) ∧ Rd w' b ⟨l, some (nmFlags, aF)⟩ ∧ Kp (fun k => k = b) w w' := by
  have c1 := hR.c1_no
  have hF := hp.hF
  rcases h with h | h
  · have hd : decide (n < 0) = true := by simpa using h
    go_enter Tryd.func31, Tryd.ntmps31
    go_wp2_with (go_at_call 53; refine (rclosed_no _ _ ?_).mono ?_; exact c1; rintro e w' ⟨rfl, rfl⟩)
    go_quiet (fail)
    go_wp2_with (go_at_call 54; refine (refuse_any b l nmFlags aF _ ?_ ?_).mono ?_; exact hR.drewN _; exact cell_drewN hF _; rintro e w' ⟨rfl, hR', hK'⟩)
    go_ret
    exact ⟨rfl, hR', hK'.from_drewN⟩
  · have hd : decide (n < 0) = false := by simp; omega
    have hd2 : decide (65536 < n) = true := by simpa using h
    go_enter Tryd.func31, Tryd.ntmps31
    go_wp2_with (go_at_call 53; refine (rclosed_no _ _ ?_).mono ?_; exact c1; rintro e w' ⟨rfl, rfl⟩)
    go_quiet (fail)
    go_wp2_with (go_at_call 54; refine (refuse_any b l nmFlags aF _ ?_ ?_).mono ?_; exact hR.drewN _; exact cell_drewN hF _; rintro e w' ⟨rfl, hR', hK'⟩)
    go_ret
    exact ⟨rfl, hR', hK'.from_drewN⟩
set_option maxHeartbeats 1600000 in
set_option maxRecDepth 100000 in
theorem rflags_bad (b : Nat) (l : List UInt8) (n : Nat) (aF : Addr) (w : World) (hR : Rd w b ⟨l, none⟩) (hp : RPre w ⟨l, none⟩ aF) (hn : n ≤ 65536) (h : l.length < (n + 7) / 8 ∨ (n + 7) / 8 ≤ l.length ∧ lo l n = true) :
    Calls Tryd.prog 31 #[.pointer (some ⟨b, 0, none⟩), .int .i64 n] w fun e w' => e = .returned (.slice none 0 0) ∧ Rd w' b ⟨l, some (nmFlags, aF)⟩ ∧ Kp (fun k => k = b) w w' := by
  have c1 := hR.c1_no
  have hF := hp.hF
  obtain ⟨r, hr, hb⟩ := id hR
  simp only at hr
  have c2 : w.cell? ⟨b, 2, none⟩ = some (.string r) := blk_cell hb 2
  have hrl : r.size ≤ 10000000 := by have := hp.hl; simp only [← hr] at this; simpa using this
  have hlen : l.length = r.size := by rw [← hr]; simp
  have hd : decide ((n : Int) < 0) = false := by simp
  have hd2 : decide (65536 < (n : Int)) = false := by simp; omega
  rcases h with h | ⟨h, h2⟩
  · have hd3 : decide ((r.size : Int) < ((n : Int) + 7) / 8) = true := by simp; omega
    clear hlen hr
    go_enter Tryd.func31, Tryd.ntmps31
    go_wp2_with (go_at_call 53; refine (rclosed_no _ _ ?_).mono ?_; exact c1; rintro e w' ⟨rfl, rfl⟩)
    go_quiet ((go_at_call 59; exact Calls.quiet_of_same (flagBytes_q n (by omega) _)))
    go_wp2_with (go_at_call 54; refine (refuse_any b l nmFlags aF _ ?_ ?_).mono ?_; exact hR.drewN _; exact cell_drewN hF _; rintro e w' ⟨rfl, hR', hK'⟩)
    go_ret
    exact ⟨rfl, hR', hK'.from_drewN⟩
  · have hd3 : decide ((r.size : Int) < ((n : Int) + 7) / 8) = false := by simp; omega
    have hk : (n + 7) / 8 ≤ r.size := by omega
    have hL := hid (leftOver_q r n hn hk)
    rw [hr, h2] at hL
    clear hlen hr
    go_enter Tryd.func31, Tryd.ntmps31
    go_wp2_with (go_at_call 53; refine (rclosed_no _ _ ?_).mono ?_; exact c1; rintro e w' ⟨rfl, rfl⟩)
    go_quiet ((first | (go_at_call 59; exact Calls.quiet_of_same (flagBytes_q n (by omega) _)) | (go_at_call 60; exact Calls.quiet_of_same (hL.out _))))
    go_wp2_with (go_at_call 54; refine (refuse_any b l nmFlags aF _ ?_ ?_).mono ?_; exact hR.drewN _; exact cell_drewN hF _; rintro e w' ⟨rfl, hR', hK'⟩)
    go_ret
    exact ⟨rfl, hR', hK'.from_drewN⟩
end Go.Proofs.YthngdaeiopgigaaDoor
