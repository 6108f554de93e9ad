/- TallyTells: a byte that is another one. -/
import Derived.Test.YtieelgikhbnalaaTc
import Derived.Laws.IdiomStrings
import Derived.Laws.BitsAllLaws
namespace Go.Proofs.Ytieelgikhbnalaa
open Go.ChangeShapes Go.WideShapes Go.ChangeAt Go.RowKit
def ovN (h c : Nat) : Nat := (h ^^^ c) * 1099511628211 % 18446744073709551616
theorem ovB_nat (h c : Nat) (hh : h < 18446744073709551616) (hc : c < 256) : ovB (h : Int) (c : Int) = (ovN h c : Int) := by
  unfold ovB ovN
  rw [bits_xor_u64_nat h c hh (by omega), IntKind.wrap_u64, Int.natCast_emod, Int.natCast_mul]; rfl
theorem ovN_lt (h c : Nat) : ovN h c < 18446744073709551616 := Nat.mod_lt _ (by decide)
theorem mul_inv (z c d : Nat) (h : z < 18446744073709551616) (hc : c * d % 18446744073709551616 = 1) : (z * c % 18446744073709551616) * d % 18446744073709551616 = z := by
  rw [Nat.mod_mul_mod, Nat.mul_assoc, ← Nat.mul_mod_mod, hc, Nat.mul_one, Nat.mod_eq_of_lt h]
theorem xlt (a b : Nat) (ha : a < 18446744073709551616) (hb : b < 256) : a ^^^ b < 18446744073709551616 := Nat.xor_lt_two_pow (n := 64) ha (by omega)
theorem ovN_back (h c : Nat) (hh : h < 18446744073709551616) (hc : c < 256) : ovN h c * 14886173955864302971 % 18446744073709551616 = h ^^^ c :=
  mul_inv _ _ _ (xlt h c hh hc) (by decide)
theorem ovN_inj {h g c d : Nat} (hh : h < 18446744073709551616) (hg : g < 18446744073709551616) (hc : c < 256) (hd : d < 256) (e : ovN h c = ovN g d) : h ^^^ c = g ^^^ d := by
  rw [← ovN_back h c hh hc, ← ovN_back g d hg hd, e]
theorem xor_cancel {a b c : Nat} (e : a ^^^ c = b ^^^ c) : a = b := by
  have := congrArg (· ^^^ c) e
  simpa [Nat.xor_assoc] using this
theorem xor_cancel' {a b c : Nat} (e : c ^^^ a = c ^^^ b) : a = b := by
  rw [Nat.xor_comm c a, Nat.xor_comm c b] at e; exact xor_cancel e
def ovTn (h : Nat) (l : List UInt8) : Nat := l.foldl (fun h c => ovN h c.toNat) h
theorem ovT_nat : ∀ (l : List UInt8) (h : Nat), h < 18446744073709551616 → ovT (h : Int) l = (ovTn h l : Int) ∧ ovTn h l < 18446744073709551616
  | [], h, hh => ⟨rfl, hh⟩
  | c :: l, h, hh => by
    have := ovT_nat l (ovN h c.toNat) (ovN_lt _ _)
    simpa [ovT, ovTn, ovB_nat h c.toNat hh c.toNat_lt] using this
theorem ovTn_inj : ∀ (l : List UInt8) (h g : Nat), h < 18446744073709551616 → g < 18446744073709551616 → ovTn h l = ovTn g l → h = g
  | [], _, _, _, _, e => e
  | c :: l, h, g, hh, hg, e => by
    have := ovTn_inj l (ovN h c.toNat) (ovN g c.toNat) (ovN_lt _ _) (ovN_lt _ _) (by simpa [ovTn] using e)
    exact xor_cancel (ovN_inj hh hg c.toNat_lt c.toNat_lt this)
theorem tells (a r : List UInt8) (c d : UInt8) (h : c ≠ d) : ovT st (a ++ c :: r) ≠ ovT st (a ++ d :: r) := by
  intro e
  have hs : (14695981039346656037 : Nat) < 18446744073709551616 := by decide
  have e1 := (ovT_nat (a ++ c :: r) _ hs).1
  have e2 := (ovT_nat (a ++ d :: r) _ hs).1
  have e3 : ovTn 14695981039346656037 (a ++ c :: r) = ovTn 14695981039346656037 (a ++ d :: r) := by
    have : ((ovTn 14695981039346656037 (a ++ c :: r) : Nat) : Int) = (ovTn 14695981039346656037 (a ++ d :: r) : Nat) := by
      rw [← e1, ← e2]; exact e
    exact Int.ofNat.inj this
  have hlt := (ovT_nat a _ hs).2
  have sp : ∀ c : UInt8, ovTn 14695981039346656037 (a ++ c :: r) = ovTn (ovN (ovTn 14695981039346656037 a) c.toNat) r := by intro c; simp [ovTn]
  rw [sp, sp] at e3
  have e4 := ovTn_inj r _ _ (ovN_lt _ _) (ovN_lt _ _) e3
  have e5 := xor_cancel' (ovN_inj hlt hlt c.toNat_lt d.toNat_lt e4)
  exact h (UInt8.toNat.inj e5)
theorem tells_set (s : List UInt8) (k : Nat) (d : UInt8) (hk : k < s.length) (hd : d ≠ s[k]) : ovT st (s.set k d) ≠ ovT st s := by
  have e1 : s = s.take k ++ s[k] :: s.drop (k + 1) := by rw [← List.drop_eq_getElem_cons hk, List.take_append_drop]
  have e2 : s.set k d = s.take k ++ d :: s.drop (k + 1) := List.set_eq_take_append_cons_drop.trans (if_pos hk)
  rw [e2]
  intro e
  refine tells (s.take k) (s.drop (k + 1)) d s[k] hd ?_
  rw [e, ← e1]
theorem rem_nat (a : Int) (n : Nat) (h0 : 0 < n) (h1 : n ≤ 1152921504606846976) : ∃ k : Nat, k < n ∧ wrap64 ((IntKind.u64.wrap a).tmod (n : Int)) = (k : Int) := by
  rw [IntKind.wrap_u64]
  have h2 : 0 ≤ a % 18446744073709551616 := Int.emod_nonneg _ (by decide)
  rw [Int.tmod_eq_emod_of_nonneg h2]
  have h3 : 0 ≤ a % 18446744073709551616 % (n : Int) := Int.emod_nonneg _ (by omega)
  have h4 : a % 18446744073709551616 % (n : Int) < n := Int.emod_lt_of_pos _ (by omega)
  generalize a % 18446744073709551616 % (n : Int) = z at h3 h4
  refine ⟨z.toNat, by omega, ?_⟩
  rw [IntWalk.wrap64_in _ (by omega)]; omega
theorem blk_set {w : World} {b : Nat} {arr : Array Value} {T : TypeId} {fr : Nat × Nat} (h : w.heap[b]? = some (.cells arr T fr)) (i : Nat) (u : Value) : (w.setCell ⟨b, i, none⟩ u).heap[b]? = some (.cells (arr.setIfInBounds i u) T fr) := by
  have hlt := lt_of_block h
  have h' : w.heap[b] = .cells arr T fr := by simpa [Array.getElem?_eq_getElem hlt] using h
  show (w.heap.modify b _)[b]? = _
  rw [Array.getElem?_eq_getElem (by simpa using hlt), Array.getElem_modify_self, h']
  rfl
theorem _root_.Go.RowKit.Below.drewN {B : Nat} {a w : World} (h : Below B a w) (n : Nat) : Below B a (w.drewN n) := ⟨h.os, h.tape, h.output, h.size, h.block⟩
theorem ret_b {a b : Bool} (h : a = b) : Ending.returned (.bool a) = .returned (.bool b) := by rw [h]
theorem masked (c : UInt8) (m : Nat) (hm : m < 255) : ∃ d : UInt8, d ≠ c ∧ bits .xor .u8 (c.toNat : Int) (1 + (m : Int)) = (d.toNat : Int) := by
  have hc : c.toNat < 256 := c.toNat_lt
  have hx : c.toNat ^^^ (1 + m) < 256 := Nat.xor_lt_two_pow (n := 8) hc (by omega)
  have e : (UInt8.ofNat (c.toNat ^^^ (1 + m))).toNat = c.toNat ^^^ (1 + m) := by
    rw [UInt8.toNat_ofNat']; exact Nat.mod_eq_of_lt hx
  refine ⟨UInt8.ofNat (c.toNat ^^^ (1 + m)), ?_, ?_⟩
  · intro h
    rw [h] at e
    have e2 : c.toNat ^^^ 0 = c.toNat ^^^ (1 + m) := by rw [Nat.xor_zero]; exact e
    have := xor_cancel' e2
    omega
  · have h1 : (1 + (m : Int)) = ((1 + m : Nat) : Int) := by omega
    rw [h1, u8_xor_nat _ _ hc (by omega), e]
set_option maxHeartbeats 800000 in
set_option maxRecDepth 100000 in
theorem tells_any (s : ByteArray) (at_ mask : Int) (w : World) (h0 : 0 < s.size) (h1 : s.size ≤ 4096) :
    Calls Try.prog 5 #[.string s, .int .i64 at_, .int .i64 mask] w fun e w' => e = .returned (.bool true) ∧ Below w.heap.size w w' := by
  have hz0 : ((s.size : Int) == 0) = false := beq_eq_false_iff_ne.2 (by omega)
  obtain ⟨k, hk, hka⟩ := rem_nat at_ s.size h0 (by omega)
  obtain ⟨m, hm, hma⟩ := rem_nat mask 255 (by decide) (by decide)
  have hma' : wrap64 ((IntKind.u64.wrap mask).tmod 255) = m := hma
  clear hma
  go_enter Try.func5, Try.ntmps5
  go_wp2_with fail
  refine (awake_any _).mono ?_
  rintro e w1 ⟨rfl, hb1⟩
  have HB1 := hid hb1
  clear hb1
  have cv := run_bytes_of_string (P := Try.prog) w1 9 45 5 s Try.underlying9 Try.underlying45 Try.underlying5
  generalize hC : grownCap w1 s.size 0 5 = C at cv
  clear hC
  obtain ⟨W2, hW2⟩ : ∃ W2, W2 = (w1.drew.alloc (.cells (bytesRow s C) 5 ((bytesRow s C).size, (bytesRow s C).size + 1))) := ⟨_, rfl⟩
  rw [← hW2] at cv
  have hsd : s.data.size = s.size := rfl
  have hblk : W2.heap[w1.heap.size]? = some (.cells (bytesRow s C) 5 ((bytesRow s C).size, (bytesRow s C).size + 1)) := by rw [hW2]; exact blk_new _ _
  have c1 : W2.cell? ⟨w1.heap.size, k, none⟩ = some (.int .u8 (s.data[k].toNat : Int)) := by rw [blk_cell hblk]; exact bytesRow_at s C k hk
  have f1 : W2.frozen? ⟨w1.heap.size, k, none⟩ = false := by
    have hr : (bytesRow s C).size = s.data.size + (C - s.size) := by simp [bytesRow]
    simp only [World.frozen?, hblk, Bool.and_eq_false_iff, decide_eq_false_iff_not]
    left; omega
  have hc2 : s.data[k].toNat < 256 := s.data[k].toNat_lt
  have HB2 : Hid (Below w.heap.size w W2) := by rw [hW2]; exact HB1.out.trans (((Below.refl w1.heap.size w1).drewN 1).alloc (Nat.le_refl _) _ |>.mono HB1.out.size)
  clear hW2
  obtain ⟨d, hd, hde⟩ := masked s.data[k] m hm
  obtain ⟨W3, hW3⟩ : ∃ W3, W3 = W2.setCell ⟨w1.heap.size, k, none⟩ (.int .u8 (d.toNat : Int)) := ⟨_, rfl⟩
  have hk' : k < s.data.toList.length := by simpa using hk
  have hne := tells_set s.data.toList k d hk' (by simpa using hd)
  have hnb : (ovT st (s.data.toList.set k d) != ovT st s.data.toList) = true := bne_iff_ne.2 hne
  have cv2 : (convert 45 9 (.slice (some ⟨w1.heap.size, 0, none⟩) s.size C)).run Try.prog W3 = .ok (.string ⟨(s.data.toList.set k d).toArray⟩) W3 := by
    have := run_convert_bytes_back (P := Try.prog) W3 45 9 5 ⟨w1.heap.size, 0, none⟩ C (s.data.toList.set k d) Try.underlying45 Try.underlying5 Try.underlying9 (fun j hj => by
      have hj' : j < s.data.size := by simpa using hj
      have ea : (⟨w1.heap.size, 0, none⟩ : Addr).add j = ⟨w1.heap.size, j, none⟩ := by simp only [Addr.add]; split <;> simp_all
      have hb3 : W3.heap[w1.heap.size]? = some (.cells ((bytesRow s C).setIfInBounds k (.int .u8 (d.toNat : Int))) 5 ((bytesRow s C).size, (bytesRow s C).size + 1)) := by rw [hW3]; exact blk_set hblk k _
      rw [ea, blk_cell hb3]
      by_cases e : k = j
      · subst e
        have hr : k < (bytesRow s C).size := by simp [bytesRow]; omega
        simp [hr]
      · rw [Array.getElem?_setIfInBounds_ne e, bytesRow_at s C j hj']
        simp [e])
    simpa using this
  have HB3 : Hid (Below w.heap.size w W3) := by rw [hW3]; exact HB2.out.setCell (by have := HB1.out.size; simpa using this) _
  have HW3 := hid hW3
  have hsl : (⟨(s.data.toList.set k d).toArray⟩ : ByteArray).size ≤ 140737488355328 := by
    have : (⟨(s.data.toList.set k d).toArray⟩ : ByteArray).size = s.data.size := by show (s.data.toList.set k d).toArray.size = _; simp
    rw [this]; show s.size ≤ _; omega
  have o1 := of_one ⟨(s.data.toList.set k d).toArray⟩ W3.heap.size 0 1 (W3.alloc (.cells #[.string ⟨(s.data.toList.set k d).toArray⟩] 9)) hsl (by rw [blk_cell (blk_new _ _)]; rfl)
  have o2 := of_one s (W3.heap.size + 1) 0 1 ((W3.alloc (.cells #[.string ⟨(s.data.toList.set k d).toArray⟩] 9)).alloc (.cells #[.string s] 9)) (by omega) (by
    simp)
  have O1 := hid o1
  have O2 := hid o2
  clear hblk hd hne hW3 o1 o2 hsl
  go_wp2_with fail
  rw [← HW3.out, cv2]
  go_wp2_with fail
  refine O1.out.mono ?_
  rintro e w' ⟨rfl, rfl⟩
  go_wp2_with fail
  refine O2.out.mono ?_
  rintro e w' ⟨rfl, rfl⟩
  go_wp2_with fail
  go_ret
  exact ⟨rfl, (HB3.out.alloc HB3.out.size _).alloc (Nat.le_trans HB3.out.size (by simp)) _⟩
theorem tells_out (s : ByteArray) (at_ mask : Int) (w : World) (h : s.size = 0 ∨ 4096 < s.size) :
    Calls Try.prog 5 #[.string s, .int .i64 at_, .int .i64 mask] w fun e w' => e = .returned (.bool true) ∧ Below w.heap.size w w' := by
  rcases h with h | h
  · have hz0 : ((s.size : Int) == 0) = true := by rw [h]; rfl
    go_enter Try.func5, Try.ntmps5
    go_wp2_with (go_at_call 7; refine (awake_any _).mono ?_; rintro e w1 ⟨rfl, hb1⟩)
    go_ret
    exact ⟨rfl, hb1⟩
  · have hz0 : ((s.size : Int) == 0) = false := beq_eq_false_iff_ne.2 (by omega)
    go_enter Try.func5, Try.ntmps5
    go_wp2_with (go_at_call 7; refine (awake_any _).mono ?_; rintro e w1 ⟨rfl, hb1⟩)
    go_ret
    exact ⟨rfl, hb1⟩
end Go.Proofs.Ytieelgikhbnalaa
