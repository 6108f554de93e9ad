/- Contracts of strand's writer: Flags. -/
import Derived.Test.YthngdaeiopgigaaDoorWf
namespace Go.Proofs.YthngdaeiopgigaaDoor
open Go.ChangeShapes Go.WideShapes Go.ChangeAt Go.RowKit
/-- A slice of bools. -/
def Bools (w : World) (v : Value) (fl : List Bool) : Prop := ∃ fa fc, v = .slice fa fl.length fc ∧ ((fl = []) ∨ ∃ b o, fa = some ⟨b, o, none⟩ ∧ ∀ j, j < fl.length → w.cell? ⟨b, o + j, none⟩ = some (.bool (fl.getD j false)))
def bN (x : Bool) : Nat := if x then 1 else 0
/-- The jth byte of flags. -/
def pk (l : List Bool) (j : Nat) : Nat := bN (l.getD (8 * j) false) + 2 * bN (l.getD (8 * j + 1) false) + 4 * bN (l.getD (8 * j + 2) false) + 8 * bN (l.getD (8 * j + 3) false) + 16 * bN (l.getD (8 * j + 4) false) + 32 * bN (l.getD (8 * j + 5) false) + 64 * bN (l.getD (8 * j + 6) false) + 128 * bN (l.getD (8 * j + 7) false)
def pkC (l : List Bool) (n : Nat) : Array Value := ((List.range n).map fun j => Value.int .u8 (pk l j : Nat)).toArray
theorem pkC_get (l : List Bool) (n j : Nat) (h : j < n) : (pkC l n)[j]? = some (.int .u8 (pk l j : Nat)) := by simp [pkC, h]
theorem pkC_size (l : List Bool) (n : Nat) : (pkC l n).size = n := by simp [pkC]
theorem pk_nil (j : Nat) : pk [] j = 0 := by simp [pk, bN]
theorem pk_made {w : World} {fl : List Bool} {B g n : Nat} (h : w.ownsRow B 5 1 (.slice (some ⟨g, 0, none⟩) n n) n (madeCells (Value.int .u8 0).cells (n * 1)).toList) : w.heap[g]? = some (.cells (pkC (fl.take 0) n) 5 (0, 0)) := by
  rcases h.2 with ⟨h1, _⟩ | ⟨g', cap, cur, h1, _, hg, h2, _, h3, h4⟩
  · cases h1
  · simp at h1
    obtain ⟨rfl, rfl⟩ := h1
    rw [hg]
    have e : cur = pkC (fl.take 0) n := by
      apply Array.toList_inj.1
      have : cur.toList.take (n * 1) = cur.toList := List.take_of_length_le (by simp at h3 ⊢; omega)
      rw [this] at h4
      rw [h4]
      apply List.ext_getElem
      · simp [madeCells, pkC]
      · intro i h1 h2
        have e0 : i % 1 = 0 := by omega
        simp [madeCells, pkC, pk_nil, Value.cells, e0]
    rw [e]
theorem take_succ_false (l : List Bool) (i : Nat) (h : l.getD i false = false) (t : Nat) : (l.take (i + 1)).getD t false = (l.take i).getD t false := by
  simp only [List.getD_eq_getElem?_getD, List.getElem?_take] at h ⊢
  by_cases h1 : t < i
  · simp [h1, show t < i + 1 by omega]
  · by_cases h2 : t = i
    · subst h2; simp [h]
    · simp [h1, show ¬ t < i + 1 by omega]
theorem take_succ_true (l : List Bool) (i : Nat) (h : l.getD i false = true) (t : Nat) : (l.take (i + 1)).getD t false = if t = i then true else (l.take i).getD t false := by
  simp only [List.getD_eq_getElem?_getD, List.getElem?_take] at h ⊢
  by_cases h1 : t < i
  · simp [h1, show t < i + 1 by omega, show ¬ t = i by omega]
  · by_cases h2 : t = i
    · subst h2; simp [h]
    · simp [h1, h2, show ¬ t < i + 1 by omega]
theorem take_at (l : List Bool) (i t : Nat) (h : i ≤ t) : (l.take i).getD t false = false := by
  simp only [List.getD_eq_getElem?_getD, List.getElem?_take]
  simp [show ¬ t < i by omega]
theorem pkC_false (l : List Bool) (i n : Nat) (h : l.getD i false = false) : pkC (l.take i) n = pkC (l.take (i + 1)) n := by
  unfold pkC pk
  simp only [take_succ_false l i h]
theorem bN_le (x : Bool) : bN x ≤ 1 := by cases x <;> simp [bN]
theorem pk_lt (l : List Bool) (j : Nat) : pk l j < 256 := by
  unfold pk
  have h0 := bN_le (l.getD (8 * j) false)
  have h1 := bN_le (l.getD (8 * j + 1) false)
  have h2 := bN_le (l.getD (8 * j + 2) false)
  have h3 := bN_le (l.getD (8 * j + 3) false)
  have h4 := bN_le (l.getD (8 * j + 4) false)
  have h5 := bN_le (l.getD (8 * j + 5) false)
  have h6 := bN_le (l.getD (8 * j + 6) false)
  have h7 := bN_le (l.getD (8 * j + 7) false)
  omega
theorem pk_bit (l : List Bool) (q r : Nat) (hr : r < 8) (h : l.getD (8 * q + r) false = true) : pk (l.take (8 * q + r + 1)) q = pk (l.take (8 * q + r)) q + 2 ^ r ∧ pk (l.take (8 * q + r)) q < 2 ^ r := by
  unfold pk
  simp only [take_succ_true l _ h]
  generalize hg : l.take (8 * q + r) = g
  have hat : ∀ t, r ≤ t → g.getD (8 * q + t) false = false := fun t ht => by rw [← hg]; exact take_at l _ _ (by omega)
  have b0 := bN_le (g.getD (8 * q) false)
  have b1 := bN_le (g.getD (8 * q + 1) false)
  have b2 := bN_le (g.getD (8 * q + 2) false)
  have b3 := bN_le (g.getD (8 * q + 3) false)
  have b4 := bN_le (g.getD (8 * q + 4) false)
  have b5 := bN_le (g.getD (8 * q + 5) false)
  have b6 := bN_le (g.getD (8 * q + 6) false)
  have bt : bN true = 1 := rfl
  have bf : bN false = 0 := rfl
  have e7 := hat 7 (by omega)
  obtain rfl | rfl | rfl | rfl | rfl | rfl | rfl | rfl : r = 0 ∨ r = 1 ∨ r = 2 ∨ r = 3 ∨ r = 4 ∨ r = 5 ∨ r = 6 ∨ r = 7 := by omega
  · have e0 : g.getD (8 * q) false = false := hat 0 (by omega)
    rw [e0, hat 1 (by omega), hat 2 (by omega), hat 3 (by omega), hat 4 (by omega), hat 5 (by omega), hat 6 (by omega), e7]
    simp [bt, bf]
  · rw [hat 1 (by omega), hat 2 (by omega), hat 3 (by omega), hat 4 (by omega), hat 5 (by omega), hat 6 (by omega), e7]
    simp [bt, bf] at *; omega
  · rw [hat 2 (by omega), hat 3 (by omega), hat 4 (by omega), hat 5 (by omega), hat 6 (by omega), e7]
    simp [bt, bf] at *; omega
  · rw [hat 3 (by omega), hat 4 (by omega), hat 5 (by omega), hat 6 (by omega), e7]
    simp [bt, bf] at *; omega
  · rw [hat 4 (by omega), hat 5 (by omega), hat 6 (by omega), e7]
    simp [bt, bf] at *; omega
  · rw [hat 5 (by omega), hat 6 (by omega), e7]
    simp [bt, bf] at *; omega
  · rw [hat 6 (by omega), e7]
    simp [bt, bf] at *; omega
  · rw [e7]
    simp [bt, bf] at *; omega
theorem pk_other (l : List Bool) (i j : Nat) (h : l.getD i false = true) (hj : j ≠ i / 8) : pk (l.take (i + 1)) j = pk (l.take i) j := by
  unfold pk
  simp only [take_succ_true l _ h]
  rw [if_neg (by omega), if_neg (by omega), if_neg (by omega), if_neg (by omega), if_neg (by omega), if_neg (by omega), if_neg (by omega), if_neg (by omega)]
theorem pk_or (l : List Bool) (i : Nat) (h : l.getD i false = true) : bits .or .u8 (pk (l.take i) (i / 8) : Nat) (2 ^ (i % 8) % 256) = (pk (l.take (i + 1)) (i / 8) : Nat) := by
  obtain ⟨q, r, hr, rfl⟩ : ∃ q r, r < 8 ∧ i = 8 * q + r := ⟨i / 8, i % 8, by omega, by omega⟩
  have e1 : (8 * q + r) / 8 = q := by omega
  have e2 : (8 * q + r) % 8 = r := by omega
  rw [e1, e2]
  obtain ⟨h1, h2⟩ := pk_bit l q r hr h
  have h3 : 2 ^ r ≤ 128 := by
    obtain rfl | rfl | rfl | rfl | rfl | rfl | rfl | rfl : r = 0 ∨ r = 1 ∨ r = 2 ∨ r = 3 ∨ r = 4 ∨ r = 5 ∨ r = 6 ∨ r = 7 := by omega
    all_goals decide
  have e3 : (2 : Int) ^ r % 256 = ((2 ^ r : Nat) : Int) := by
    rw [Int.natCast_pow]; have : ((2 : Nat) : Int) ^ r = ((2 ^ r : Nat) : Int) := by rw [Int.natCast_pow]
    show ((2 : Nat) : Int) ^ r % 256 = ((2 : Nat) : Int) ^ r
    rw [this]; omega
  rw [e3, u8_or_nat _ _ (pk_lt _ _) (by omega), Nat.or_comm, nat_join r _ _ (by simp) h2, h1, Nat.add_comm]
theorem pk_store {w : World} {g n i : Nat} {l : List Bool} (hblk : w.heap[g]? = some (.cells (pkC (l.take i) n) 5 (0, 0))) (h : l.getD i false = true) :
    (w.setCell ⟨g, i / 8, none⟩ (.int .u8 (bits .or .u8 (pk (l.take i) (i / 8) : Nat) (2 ^ (i % 8) % 256)))).heap[g]? = some (.cells (pkC (l.take (i + 1)) n) 5 (0, 0)) := by
  rw [blk_set hblk, pk_or l i h]
  have e : (pkC (l.take i) n).setIfInBounds (i / 8) (.int .u8 (pk (l.take (i + 1)) (i / 8) : Nat)) = pkC (l.take (i + 1)) n := by
    apply Array.ext
    · simp [pkC]
    · intro j h1 h2
      have hj : j < n := by simpa [pkC] using h2
      rw [Array.getElem_setIfInBounds]
      · split
        · rename_i hh; subst hh; simp [pkC]
        · rename_i hh; simp [pkC, pk_other l i j h (fun e => hh e.symm)]
      · simpa [pkC] using hj
  rw [e]
/-- The bytes of flags. -/
def packL (fl : List Bool) : List UInt8 := (List.range ((fl.length + 7) / 8)).map fun j => UInt8.ofNat (pk fl j)
theorem packL_len {fl : List Bool} (h : fl.length ≤ 100000) : (packL fl).length ≤ 1000000 := by simp [packL]; omega
theorem packL_own {w : World} {g : Nat} {fl : List Bool} (hblk : w.heap[g]? = some (.cells (pkC fl ((fl.length + 7) / 8)) 5 (0, 0))) (h : (fl.length + 7) / 8 ≤ 1000000) :
    w.ownsRow 0 5 1 (.slice (some ⟨g, 0, none⟩) ((fl.length + 7) / 8) ((fl.length + 7) / 8)) (packL fl).length ((packL fl).map bv) := by
  have e : (packL fl).length = (fl.length + 7) / 8 := by simp [packL]
  rw [e]
  refine ⟨by simp [e], .inr ⟨g, _, _, rfl, Nat.zero_le _, hblk, Nat.le_refl _, by unfold maxLen; omega, by simp [pkC_size], ?_⟩⟩
  rw [List.take_of_length_le (by simp [pkC_size])]
  apply List.ext_getElem
  · simp [pkC, packL]
  · intro i h1 h2
    simp [pkC, packL, bv_of (pk_lt _ _)]
set_option maxHeartbeats 800000 in
set_option maxRecDepth 100000 in
theorem flags_walk (b : Nat) (st : WS) (fl : List Bool) (fb fo fc : Nat) (hn : fl.length ≤ 100000) (aA aL : Addr) (w : World) (hW : Wr w b st) (hp : WPre w st aA aL) (hF : ∀ j, j < fl.length → w.cell? ⟨fb, fo + j, none⟩ = some (.bool (fl.getD j false))) (hfb : fb < w.heap.size) :
    Calls Tryd.prog 35 #[.pointer (some ⟨b, 0, none⟩), .slice (some ⟨fb, fo, none⟩) fl.length fc] w fun e w' => e = .returned (.tuple #[]) ∧ Wr w' b (st.putB aA aL nmFlags (some (packL fl))) ∧ Stp b w w' := by
  obtain ⟨i0, hi, hz0, hz1, hz2⟩ := info_parts Tryd.info5
  go_enter Tryd.func35, Tryd.ntmps35
  go_wp2_with (first | (go_at_call 59; refine (flagBytes_any _ ?_ _).mono ?_; omega; rintro e w1 ⟨rfl, rfl⟩) | (at_make; refine wpList_make_full _ rfl (.tmp 9) (.tmp 9) 64 rfl w.heap.size 5 i0 (.int .u8 0) 1 Tryd.underlying64 hi hz0 hz1 .i64 .i64 _ _ ((fl.length + 7) / 8) rfl rfl (by omega) (by omega) (by rw [hz2]; omega) (by unfold maxLen; omega) (Nat.le_refl _) ?_; intro w1 hown1 hgrow1))
  have hblk : w1.heap[w.heap.size]? = some (.cells (pkC (fl.take 0) ((fl.length + 7) / 8)) 5 (0, 0)) := pk_made hown1
  have hbel : Below w.heap.size w w1 := (Below.refl _ _).grown hgrow1 (Nat.le_refl _) (fun k h => by cases h)
  clear hown1 hgrow1
  go_loopw [13] (fun x wr => ∃ i : Nat, x = .int .i64 i ∧ i ≤ fl.length ∧ wr.heap[w.heap.size]? = some (.cells (pkC (fl.take i) ((fl.length + 7) / 8)) 5 (0, 0)) ∧ Below w.heap.size w wr) (fun x _ => fl.length - (intOf x).toNat)
  case atStart => exact ⟨0, rfl, Nat.zero_le _, hblk, hbel⟩
  case round =>
    clear hblk hbel
    obtain ⟨i, rfl, hil, hblk, hbel⟩ := hrel
    by_cases hlt : i < fl.length
    · have hcf : wr.cell? ⟨fb, fo + i, none⟩ = some (.bool (fl.getD i false)) := (hbel.cell (p := ⟨fb, fo + i, none⟩) hfb).trans (hF i hlt)
      have hc1 : wr.cell? ⟨w.heap.size, i / 8, none⟩ = some (.int .u8 (pk (fl.take i) (i / 8) : Nat)) := by rw [blk_cell hblk, pkC_get _ _ _ (by omega)]
      have hf1 : wr.frozen? ⟨w.heap.size, i / 8, none⟩ = false := blk_free hblk _
      cases hfi : fl.getD i false
      · rw [hfi] at hcf
        go_wp2
        refine ⟨⟨i + 1, by go_num, by omega, ?_, hbel⟩, by simp [intOf]; omega⟩
        rw [hblk, pkC_false _ _ _ hfi]
      · rw [hfi] at hcf
        go_wp2
        go_region
        all_goals go_wp2
        all_goals refine ⟨⟨i + 1, by go_num, by omega, ?_, ?_⟩, by simp [intOf]; omega⟩
        all_goals first | exact pk_store hblk hfi | exact (hbel.setCell (p := ⟨w.heap.size, i / 8, none⟩) (Nat.le_refl _) _).drew | exact (hbel.setCell (p := ⟨w.heap.size, i / 8, none⟩) (Nat.le_refl _) _)
    · have hie : i = fl.length := by omega
      subst hie
      rw [List.take_length] at hblk
      go_wp2_with (go_at_call 50; refine (write_from (aA := aA) (aL := aL) (xs := packL fl) hbel hW hp ?_ ?_ ?_).mono ?_; exact packL_len hn; exact packL_own hblk (by omega); simp; rintro e w' ⟨rfl, hW', hS'⟩)
      go_end0
      exact ⟨rfl, hW', hS'⟩
set_option maxHeartbeats 800000 in
set_option maxRecDepth 100000 in
theorem flags_none (b : Nat) (st : WS) (fa : Option Addr) (fc : Nat) (aA aL : Addr) (w : World) (hW : Wr w b st) (hp : WPre w st aA aL) :
    Calls Tryd.prog 35 #[.pointer (some ⟨b, 0, none⟩), .slice fa 0 fc] w fun e w' => e = .returned (.tuple #[]) ∧ Wr w' b (st.putB aA aL nmFlags (some (packL []))) ∧ Stp b w w' := by
  obtain ⟨i0, hi, hz0, hz1, hz2⟩ := info_parts Tryd.info5
  go_enter Tryd.func35, Tryd.ntmps35
  go_wp2_with (first | (go_at_call 59; refine (flagBytes_any 0 ?_ _).mono ?_; omega; rintro e w1 ⟨rfl, rfl⟩) | (at_make; refine wpList_make_full _ rfl (.tmp 9) (.tmp 9) 64 rfl w.heap.size 5 i0 (.int .u8 0) 1 Tryd.underlying64 hi hz0 hz1 .i64 .i64 _ _ 0 rfl rfl (by omega) (by omega) (by rw [hz2]; omega) (by unfold maxLen; omega) (Nat.le_refl _) ?_; intro w1 hown1 hgrow1))
  have hblk : w1.heap[w.heap.size]? = some (.cells (pkC [] ((([] : List Bool).length + 7) / 8)) 5 (0, 0)) := pk_made (fl := []) hown1
  have hbel : Below w.heap.size w w1 := (Below.refl _ _).grown hgrow1 (Nat.le_refl _) (fun k h => by cases h)
  have hpo := packL_own hblk (by simp)
  refine wp_loop_rounds 1 ?_
  rw [rounds_succ]
  go_wp2_with (go_at_call 50; refine (write_from (aA := aA) (aL := aL) (xs := packL []) hbel hW hp ?_ ?_ ?_).mono ?_; exact packL_len (by simp); exact hpo; simp; rintro e w' ⟨rfl, hW', hS'⟩)
  go_end0
  exact ⟨rfl, hW', hS'⟩
theorem flags_any (b : Nat) (st : WS) (v : Value) (fl : List Bool) (hn : fl.length ≤ 100000) (aA aL : Addr) (w : World) (hW : Wr w b st) (hp : WPre w st aA aL) (hF : Bools w v fl) :
    Calls Tryd.prog 35 #[.pointer (some ⟨b, 0, none⟩), v] w fun e w' => e = .returned (.tuple #[]) ∧ Wr w' b (st.putB aA aL nmFlags (some (packL fl))) ∧ Stp b w w' := by
  obtain ⟨fa, fc, rfl, h⟩ := hF
  by_cases he : fl = []
  · subst he
    exact flags_none b st fa fc aA aL w hW hp
  · rcases h with h | ⟨fb, fo, rfl, h⟩
    · exact absurd h he
    · have : 0 < fl.length := List.length_pos_iff.2 he
      exact flags_walk b st fl fb fo fc hn aA aL w hW hp h (World.block_lt_of_cell? w _ (h 0 this))
end Go.Proofs.YthngdaeiopgigaaDoor
