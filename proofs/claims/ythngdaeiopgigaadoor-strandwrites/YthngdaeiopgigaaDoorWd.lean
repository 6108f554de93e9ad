/- Contracts of strand's writer: each call that writes. -/
import Derived.Test.YthngdaeiopgigaaDoorWc
import Derived.Test.YthngdaeiopgigaaDoorMa
namespace Go.Proofs.YthngdaeiopgigaaDoor
open Go.ChangeShapes Go.WideShapes Go.ChangeAt Go.RowKit

set_option maxHeartbeats 400000 in
theorem write_bad (b : Nat) (s s' : ByteArray) (v : Value) (a : Addr) (w : World) (hW : Wr w b (.bad s a)) :
    Calls Tryd.prog 50 #[.pointer (some ⟨b, 0, none⟩), .string s', v] w fun e w' => e = .returned (.tuple #[]) ∧ w = w' := by
  go_enter Tryd.func50, Tryd.ntmps50
  go_wp2_with (go_at_call 48; refine (closed_any _ _ (.bad s a) ?_).mono ?_; exact hW; rintro e w' ⟨rfl, rfl⟩)
  all_goals first | (exact bodyPost_ret (results_none rfl _ _ _) rfl ⟨rfl, rfl⟩) | skip
  all_goals (simp [WS.wrong] at *; done)
theorem write_any (b : Nat) (st : WS) (xs : List UInt8) (s : ByteArray) (v : Value) (aL : Addr) (w : World) (hW : Wr w b st) (hm : (st.most : Int) ≤ 9223372036854775807) (hl : st.len ≤ 1000000) (hx : xs.length ≤ 1000000)
    (hs : w.ownsRow 0 5 1 v xs.length (xs.map bv)) (hv : v ≠ .slice none 0 0) (hL : w.cell? ⟨2, 0, none⟩ = some (.iface 113 (.pointer (some aL)))) :
    Calls Tryd.prog 50 #[.pointer (some ⟨b, 0, none⟩), .string s, v] w fun e w' => e = .returned (.tuple #[]) ∧ Wr w' b (st.write aL s xs) ∧ Stp b w w' := by
  cases st with
  | ok m l =>
    by_cases h : m < l.length + xs.length
    · rw [show WS.write aL s xs (.ok m l) = .bad s aL from by simp [WS.write, h]]
      exact write_long b m l xs s v aL w hW hm hl hx hs hL h
    · rw [show WS.write aL s xs (.ok m l) = .ok m (l ++ xs) from by simp [WS.write, h]]
      exact write_ok b m l xs s v w hW hm hl hx hs hv (by omega)
  | bad s' a =>
    refine (write_bad b s' s v a w hW).mono ?_
    rintro e w' ⟨h, rfl⟩
    exact ⟨h, hW, Stp.refl _ _⟩
set_option maxHeartbeats 400000 in
theorem fold_any (n : Int) (hn : I64 n) (w : World) :
    Calls Tryd.prog 52 #[.int .i64 n] w fun e w' => e = .returned (.int .u64 (zig n : Nat)) ∧ w = w' := by
  by_cases h : n < 0
  · rw [← fold_neg_eq n hn h]
    clear hn
    go_enter Tryd.func52, Tryd.ntmps52
    go_wp2
    go_ret
    exact ⟨rfl, rfl⟩
  · rw [← fold_pos_eq n hn (by omega)]
    clear hn
    go_enter Tryd.func52, Tryd.ntmps52
    go_wp2
    go_ret
    exact ⟨rfl, rfl⟩
set_option maxHeartbeats 400000 in
theorem flagBytes_any (n : Nat) (h : n ≤ 10000000) (w : World) :
    Calls Tryd.prog 59 #[.int .i64 n] w fun e w' => e = .returned (.int .i64 ((n + 7) / 8 : Nat)) ∧ w = w' := by
  rw [show (((n + 7) / 8 : Nat) : Int) = ((n : Int) + 8 - 1) / 8 from by omega]
  go_enter Tryd.func59, Tryd.ntmps59
  go_wp2
  go_ret
  exact ⟨rfl, rfl⟩
set_option maxHeartbeats 400000 in
theorem at_any (s : ByteArray) (a : Addr) (w : World) :
    Calls Tryd.prog 45 #[.string s, .iface 113 (.pointer (some a))] w fun e w' => e = .returned (.iface 96 (.pointer (some ⟨w.heap.size, 0, none⟩))) ∧ w' = w.alloc (.cells #[.string s, .iface 113 (.pointer (some a))] 61) := by
  go_enter Tryd.func45, Tryd.ntmps45
  go_wp2
  go_ret
  exact ⟨rfl, rfl⟩

def nmByte : ByteArray := ⟨#[98, 121, 116, 101]⟩
def nmCount : ByteArray := ⟨#[99, 111, 117, 110, 116]⟩
def nmNum : ByteArray := ⟨#[110, 117, 109]⟩
def nmText : ByteArray := ⟨#[116, 101, 120, 116]⟩
def nmBits : ByteArray := ⟨#[98, 105, 116, 115]⟩
def nmFlags : ByteArray := ⟨#[102, 108, 97, 103, 115]⟩
/-- What a call that writes does: what it is asked to write may be none at all. -/
def WS.putB (aA aL : Addr) (s : ByteArray) (o : Option (List UInt8)) : WS → WS
  | .ok m l => match o with | none => .bad s aA | some xs => (WS.ok m l).write aL s xs
  | .bad s a => .bad s a
theorem WS.putB_some (aA aL : Addr) (s : ByteArray) (xs : List UInt8) (st : WS) : st.putB aA aL s (some xs) = st.write aL s xs := by cases st <;> rfl
/-- What the calls ask of the writer and of the world. -/
structure WPre (w : World) (st : WS) (aA aL : Addr) : Prop where
  hm : (st.most : Int) ≤ 9223372036854775807
  hl : st.len ≤ 1000000
  hA : w.cell? ⟨1, 0, none⟩ = some (.iface 113 (.pointer (some aA)))
  hL : w.cell? ⟨2, 0, none⟩ = some (.iface 113 (.pointer (some aL)))
  h1 : 2 < w.heap.size
theorem WPre.new {w w' : World} {st : WS} {aA aL : Addr} (h : WPre w st aA aL) (hb : Below w.heap.size w w') : WPre w' st aA aL :=
  ⟨h.hm, h.hl, (hb.cell (p := ⟨1, 0, none⟩) (by have := h.h1; simp; omega)).trans h.hA, (hb.cell (p := ⟨2, 0, none⟩) (by have := h.h1; simp; omega)).trans h.hL, Nat.lt_of_lt_of_le h.h1 hb.size⟩
theorem own_one (w : World) (c : UInt8) : (w.alloc (.cells #[bv c] 5)).ownsRow 0 5 1 (.slice (some ⟨w.heap.size, 0, none⟩) 1 1) [c].length ([c].map bv) :=
  ⟨by simp, .inr ⟨w.heap.size, 1, #[bv c], rfl, Nat.zero_le _, blk_new _ _, by simp, by unfold maxLen; simp, by simp, by simp⟩⟩
/-- Bytes of the call's own are made, then written. -/
theorem write_from {w w1 : World} {b : Nat} {st : WS} {xs : List UInt8} {s : ByteArray} {v : Value} {aA aL : Addr} (hb : Below w.heap.size w w1) (hW : Wr w b st) (hp : WPre w st aA aL) (hx : xs.length ≤ 1000000) (hs : w1.ownsRow 0 5 1 v xs.length (xs.map bv)) (hv : v ≠ .slice none 0 0) :
    Calls Tryd.prog 50 #[.pointer (some ⟨b, 0, none⟩), .string s, v] w1 fun e w' => e = .returned (.tuple #[]) ∧ Wr w' b (st.putB aA aL s (some xs)) ∧ Stp b w w' := by
  rw [WS.putB_some]
  refine (write_any b st xs s v aL w1 (hW.new hb) hp.hm hp.hl hx hs hv (hp.new hb).hL).mono ?_
  rintro e w' ⟨h1, h2, h3⟩
  exact ⟨h1, h2, (Stp.new hb hW.foots.lt).trans h3⟩

def encByte (n : Int) : Option (List UInt8) := if n < 0 ∨ 255 < n then none else some [UInt8.ofNat n.toNat]
set_option maxHeartbeats 400000 in
theorem byte_bad (b : Nat) (n : Int) (s : ByteArray) (a : Addr) (w : World) (hW : Wr w b (.bad s a)) :
    Calls Tryd.prog 25 #[.pointer (some ⟨b, 0, none⟩), .int .i64 n] w fun e w' => e = .returned (.tuple #[]) ∧ w = w' := by
  go_enter Tryd.func25, Tryd.ntmps25
  go_wp2_with (go_at_call 48; refine (closed_any _ _ (.bad s a) ?_).mono ?_; exact hW; rintro e w' ⟨rfl, rfl⟩)
  all_goals first | (exact bodyPost_ret (results_none rfl _ _ _) rfl ⟨rfl, rfl⟩) | skip
  all_goals (simp [WS.wrong] at *; done)
set_option maxHeartbeats 800000 in
set_option maxRecDepth 100000 in
theorem byte_ok (b m : Nat) (l : List UInt8) (n : Int) (aA aL : Addr) (w : World) (hW : Wr w b (.ok m l)) (hp : WPre w (.ok m l) aA aL) :
    Calls Tryd.prog 25 #[.pointer (some ⟨b, 0, none⟩), .int .i64 n] w fun e w' => e = .returned (.tuple #[]) ∧ Wr w' b ((WS.ok m l).putB aA aL nmByte (encByte n)) ∧ Stp b w w' := by
  by_cases h : n < 0 ∨ 255 < n
  · have hA := hp.hA
    obtain ⟨v, hb, hown, hne⟩ := id hW
    have c0 : w.cell? ⟨b, 0, none⟩ = some (.string ⟨#[]⟩) := blk_cell hb 0
    have c1 : w.cell? ⟨b, 1, none⟩ = some .nilIface := blk_cell hb 1
    have f0 : w.frozen? ⟨b, 0, none⟩ = false := blk_free hb 0
    have f1 : w.frozen? ⟨b, 1, none⟩ = false := blk_free hb 1
    rw [show (WS.ok m l).putB aA aL nmByte (encByte n) = .bad nmByte aA from by simp [WS.putB, encByte, h]]
    rcases h with h | h
    all_goals
      go_enter Tryd.func25, Tryd.ntmps25
      go_wp2_with (go_at_call 48; refine (closed_any _ _ (.ok m l) ?_).mono ?_; exact hW; rintro e w' ⟨rfl, rfl⟩)
      go_region_with (go_at_call 49; refine (fail_any _ _ _ _ _ (.string ⟨#[]⟩) .nilIface ?_ ?_ ?_ ?_).mono ?_; exact c0; exact c1; exact f0; exact f1; rintro e w' ⟨rfl, rfl⟩)
      all_goals go_wp2
      all_goals exact bodyPost_ret (results_none rfl _ _ _) rfl ⟨rfl, wr_failed hb hown⟩
  · obtain ⟨k, rfl⟩ : ∃ k : Nat, n = k := ⟨n.toNat, by omega⟩
    have hk : k < 256 := by omega
    rw [show encByte (k : Int) = some [UInt8.ofNat k] from by simp [encByte]; omega]
    have e1 : ¬ ((k : Int) < 0) := by omega
    have e2 : ¬ (255 < (k : Int)) := by omega
    have hb0 := bv_of hk
    go_enter Tryd.func25, Tryd.ntmps25
    go_wp2_with (first | (go_at_call 48; refine (closed_any _ _ (.ok m l) ?_).mono ?_; exact hW; rintro e w' ⟨rfl, rfl⟩) | (go_at_call 50; rw [← hb0]; refine (write_from (aA := aA) (aL := aL) (xs := [UInt8.ofNat k]) ((Below.refl _ _).alloc (Nat.le_refl _) _) hW hp ?_ (own_one _ _) ?_).mono ?_; simp; simp; rintro e w' ⟨rfl, hW', hS'⟩))
    go_end0
    exact ⟨rfl, hW', hS'⟩
theorem byte_any (b : Nat) (st : WS) (n : Int) (aA aL : Addr) (w : World) (hW : Wr w b st) (hp : WPre w st aA aL) :
    Calls Tryd.prog 25 #[.pointer (some ⟨b, 0, none⟩), .int .i64 n] w fun e w' => e = .returned (.tuple #[]) ∧ Wr w' b (st.putB aA aL nmByte (encByte n)) ∧ Stp b w w' := by
  cases st with
  | ok m l => exact byte_ok b m l n aA aL w hW hp
  | bad s a => exact (byte_bad b n s a w hW).mono (by rintro e w' ⟨h, rfl⟩; exact ⟨h, hW, Stp.refl _ _⟩)
end Go.Proofs.YthngdaeiopgigaaDoor
