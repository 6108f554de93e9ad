/- Contracts of strand's reader: Flags that are there. -/
import Derived.Test.YthngdaeiopgigaaDoorRg
namespace Go.Proofs.YthngdaeiopgigaaDoor
open Go.ChangeShapes Go.WideShapes Go.ChangeAt Go.RowKit
theorem Tryd.info4 : (Tryd.prog.info? 4).map (fun i => (i.zero, i.size, i.bytes)) = some (some (.bool false), 1, 1) := by kernel_rfl
def fbit (l : List UInt8) (i : Nat) : Bool := (l.getD (i / 8) 0).toNat / 2 ^ (i % 8) % 2 == 1
/-- The bools of which i are set. -/
def fpC (l : List UInt8) (i n : Nat) : Array Value := ((List.range n).map fun j => Value.bool (if j < i then fbit l j else false)).toArray
theorem fp_made {w : World} {l : List UInt8} {B g n : Nat} (h : w.ownsRow B 4 1 (.slice (some ⟨g, 0, none⟩) n n) n (madeCells (Value.bool false).cells (n * 1)).toList) : w.heap[g]? = some (.cells (fpC l 0 n) 4 (0, 0)) := by
  rcases h.2 with ⟨h1, _⟩ | ⟨g', cap, cur, h1, _, hg, h2, _, h3, h4⟩
  · cases h1
  · simp at h1
    obtain ⟨rfl, rfl⟩ := h1
    rw [hg]
    have e : cur = fpC l 0 n := by
      apply Array.toList_inj.1
      have : cur.toList.take (n * 1) = cur.toList := List.take_of_length_le (by simp at h3 ⊢; omega)
      rw [this] at h4
      rw [h4]
      apply List.ext_getElem
      · simp [madeCells, fpC]
      · intro i h1 h2
        have e0 : i % 1 = 0 := by omega
        simp [madeCells, fpC, Value.cells, e0]
    rw [e]
theorem fp_store {w : World} {g n i : Nat} {l : List UInt8} (hblk : w.heap[g]? = some (.cells (fpC l i n) 4 (0, 0))) : (w.setCell ⟨g, i, none⟩ (.bool (fbit l i))).heap[g]? = some (.cells (fpC l (i + 1) n) 4 (0, 0)) := by
  rw [blk_set hblk]
  have e : (fpC l i n).setIfInBounds i (.bool (fbit l i)) = fpC l (i + 1) n := by
    apply Array.ext
    · simp [fpC]
    · intro j h1 h2
      have hj : j < n := by simpa [fpC] using h2
      rw [Array.getElem_setIfInBounds (by simpa [fpC] using hj)]
      split
      · rename_i hh; subst hh; simp [fpC]
      · rename_i hh
        simp only [fpC, List.getElem_toArray, List.getElem_map, List.getElem_range]
        by_cases h3 : j < i
        · rw [if_pos h3, if_pos (by omega)]
        · rw [if_neg h3, if_neg (by omega)]
  rw [e]
theorem fp_done {w : World} {g n c : Nat} {l : List UInt8} (hblk : w.heap[g]? = some (.cells (fpC l n n) 4 (0, 0))) : Bools w (.slice (some ⟨g, 0, none⟩) n c) (unpk l n) := by
  have hl : (unpk l n).length = n := by simp [unpk]
  refine ⟨some ⟨g, 0, none⟩, c, by rw [hl], .inr ⟨g, 0, rfl, fun j hj => ?_⟩⟩
  rw [hl] at hj
  rw [Nat.zero_add, blk_cell hblk]
  simp [fpC, unpk, fbit, hj, List.getD_eq_getElem?_getD]
theorem bit_eq (c k : Nat) : (((c : Int) / 2 ^ k).tmod 2 == 1) = (c / 2 ^ k % 2 == 1) := by
  rw [shr_cast]
  have : (((c / 2 ^ k : Nat) : Int)).tmod 2 = ((c / 2 ^ k % 2 : Nat) : Int) := rfl
  rw [this, Bool.eq_iff_iff, beq_iff_eq, beq_iff_eq]
  omega
theorem Kp.thenBelow {X : Nat → Prop} {w w1 w2 : World} (h : Kp X w w1) (hb : Below w.heap.size w1 w2) : Kp X w w2 :=
  ⟨hb.os.trans h.os, hb.tape.trans h.tape, hb.output.trans h.output, Nat.le_trans h.size hb.size, fun k hk hx => (hb.block k hk).trans (h.block k hk hx)⟩
/-- A slice of the call's own, or none. -/
def Fresh (w : World) (v : Value) : Prop := ∀ a k c, v = .slice (some a) k c → w.heap.size ≤ a.block
theorem unpk_take {l t : List UInt8} {n : Nat} (h : t = l.take ((n + 7) / 8)) : unpk t n = unpk l n := by
  unfold unpk
  apply List.map_congr_left
  intro i hi
  have hi : i < n := by simpa using hi
  rw [h, List.getD_eq_getElem?_getD, List.getElem?_take, if_pos (by omega), ← List.getD_eq_getElem?_getD]
set_option maxHeartbeats 1600000 in
set_option maxRecDepth 100000 in
theorem rflags_ok (b : Nat) (l : List UInt8) (n : Nat) (w : World) (hR : Rd w b ⟨l, none⟩) (hn : n ≤ 65536) (h : (n + 7) / 8 ≤ l.length) (h2 : lo l n = false) :
    Calls Tryd.prog 31 #[.pointer (some ⟨b, 0, none⟩), .int .i64 n] w fun e w' => (∃ v, e = .returned v ∧ Bools w' v (unpk l n) ∧ Fresh w v) ∧ Rd w' b ⟨l.drop ((n + 7) / 8), none⟩ ∧ Kp (fun k => k = b) w w' := by
  have c1 := hR.c1_no
  obtain ⟨r, hr, hb⟩ := id hR
  simp only at hr
  have c2 : w.cell? ⟨b, 2, none⟩ = some (.string r) := blk_cell hb 2
  have hlen : l.length = r.size := by rw [← hr]; simp
  have hd : decide ((n : Int) < 0) = false := by simp
  have hd2 : decide (65536 < (n : Int)) = false := by simp; omega
  have hd3 : decide ((r.size : Int) < ((n : Int) + 7) / 8) = false := by simp; omega
  have hk : (n + 7) / 8 ≤ r.size := by omega
  have hL := hid (leftOver_q r n hn hk)
  rw [hr, h2] at hL
  have hrest : (r.extract ((n + 7) / 8) r.size).data.toList = l.drop ((n + 7) / 8) := by rw [extract_rest, hr]
  have htak : (r.extract 0 ((n + 7) / 8)).data.toList = l.take ((n + 7) / 8) := by rw [extract_list, hr]; simp
  have HT := hid (fun W hb => take_any b ((n + 7) / 8) r W hb hk)
  have htsz : (r.extract 0 ((n + 7) / 8)).size = (n + 7) / 8 := by simp; omega
  have HTK := hid htak
  have HRS := hid hrest
  obtain ⟨i0, hi, hz0, hz1, hz2⟩ := info_parts Tryd.info4
  clear hrest htak h2
  generalize r.extract 0 ((n + 7) / 8) = tk at *
  generalize hrr : r.extract ((n + 7) / 8) r.size = rr at *
  clear hrr
  go_enter Tryd.func31, Tryd.ntmps31
  go_wp2_with (go_at_call 53; refine (rclosed_no _ _ ?_).mono ?_; exact c1; rintro e w' ⟨rfl, rfl⟩)
  go_quiet ((first | (go_at_call 59; exact Calls.quiet_of_same (flagBytes_q n (by omega) _)) | (go_at_call 60; exact Calls.quiet_of_same (hL.out _))))
  go_wp2_with (first | (go_at_call 59; refine (flagBytes_any n (by omega) _).mono ?_; rintro e w' ⟨rfl, rfl⟩) | (go_at_call 55; refine (HT.out _ ?_).mono ?_; exact hb; rintro e w' ⟨rfl, rfl⟩) | (at_make; refine wpList_make_full _ rfl (.tmp 40) (.tmp 40) 28 rfl w.heap.size 4 i0 (.bool false) 1 Tryd.underlying28 hi hz0 hz1 .i64 .i64 _ _ n rfl rfl (by omega) (by omega) (by rw [hz2]; omega) (by unfold maxLen; omega) (by simp) ?_; intro w1 hown1 hgrow1))
  have hRw : Rd w1 b ⟨l.drop ((n + 7) / 8), none⟩ ∧ Kp (fun k => k = b) w w1 := by
    obtain ⟨h1, h2⟩ : Rd ((w.drewN nq).setCell ⟨b, 2, none⟩ (.string rr)) b ⟨l.drop ((n + 7) / 8), none⟩ ∧ Kp (fun k => k = b) w ((w.drewN nq).setCell ⟨b, 2, none⟩ (.string rr)) :=
      ⟨⟨rr, HRS.out, by rw [blk_set (w := w.drewN nq) hb 2 _]; rfl⟩, Kp.setCell (X := fun j => j = b) ((Kp.refl _ _).drewN nq) (fun _ => rfl) _⟩
    exact ⟨h1.kept (hgrow1.block b h1.foots.lt (fun e => by cases e)), h2.grown hgrow1 (fun k e => by cases e)⟩
  have hblk : w1.heap[w.heap.size]? = some (.cells (fpC tk.data.toList 0 n) 4 (0, 0)) := by
    have e : ((w.drewN nq).setCell ⟨b, 2, none⟩ (.string rr)).heap.size = w.heap.size := by simp [World.drewN]
    rw [e] at hown1
    exact fp_made hown1
  have HRW := hid hRw
  have hsz : w.heap.size ≤ w1.heap.size := hRw.2.size
  clear hown1 hgrow1 hRw HT hL
  go_loopw [44] (fun x wr => ∃ i : Nat, x = .int .i64 i ∧ i ≤ n ∧ wr.heap[w.heap.size]? = some (.cells (fpC tk.data.toList i n) 4 (0, 0)) ∧ Below w.heap.size w1 wr) (fun x _ => n - (intOf x).toNat)
  case atStart => exact ⟨0, rfl, Nat.zero_le _, hblk, Below.refl _ _⟩
  case round =>
    clear hblk
    obtain ⟨i, rfl, hil, hblk, hbel⟩ := hrel
    by_cases hlt : i < n
    · have hx := idx_getD tk (i / 8) (by omega)
      rw [show (((i / 8 : Nat)) : Int) = (i : Int) / 8 from by omega] at hx
      have hbit : fbit tk.data.toList i = ((tk.data.toList.getD (i / 8) 0).toNat / 2 ^ (i % 8) % 2 == 1) := rfl
      have hc2 : (tk.data.toList.getD (i / 8) 0).toNat < 256 := UInt8.toNat_lt _
      have HST := hid (fp_store hblk)
      rw [hbit] at HST
      generalize (tk.data.toList.getD (i / 8) 0).toNat = c at *
      have hc1 : wr.cell? ⟨w.heap.size, i, none⟩ = some (.bool (if i < i then fbit tk.data.toList i else false)) := by rw [blk_cell hblk]; simp [fpC, hlt]
      have hf1 : wr.frozen? ⟨w.heap.size, i, none⟩ = false := blk_free hblk _
      go_wp2
      have hbe : (((c : Int) / 2 ^ (i % 8)).tmod 2 == 1) = (c / 2 ^ (i % 8) % 2 == 1) := bit_eq c (i % 8)
      rw [hbe]
      exact ⟨⟨i + 1, by go_num, by omega, HST.out, hbel.setCell (p := ⟨w.heap.size, i, none⟩) (Nat.le_refl _) _⟩, by simp [intOf]; omega⟩
    · have hie : i = n := by omega
      subst hie
      go_wp2
      go_ret
      obtain ⟨h1, h2⟩ := HRW.out
      have hbo := fp_done (c := i) hblk
      rw [unpk_take HTK.out] at hbo
      refine ⟨⟨_, rfl, hbo, fun a k c e => by cases e; exact Nat.le_refl _⟩, h1.kept (hbel.block b (by have := hR.foots.lt; omega)), h2.thenBelow hbel⟩
set_option maxHeartbeats 400000 in
theorem rflags_wrong (b : Nat) (l : List UInt8) (n : Int) (s : ByteArray) (a : Addr) (w : World) (hR : Rd w b ⟨l, some (s, a)⟩) :
    Calls Tryd.prog 31 #[.pointer (some ⟨b, 0, none⟩), .int .i64 n] w fun e w' => e = .returned (.slice none 0 0) ∧ w = w' := by
  have c1 := hR.c1_yes
  go_enter Tryd.func31, Tryd.ntmps31
  go_wp2_with (go_at_call 53; refine (rclosed_yes _ a _ ?_).mono ?_; exact c1; rintro e w' ⟨rfl, rfl⟩)
  go_ret
  exact ⟨rfl, rfl⟩
theorem Bools.nil (w : World) : Bools w (.slice none 0 0) [] := ⟨none, 0, rfl, .inl rfl⟩
theorem rflags_any (b : Nat) (st : RS) (n : Int) (aF : Addr) (w : World) (hR : Rd w b st) (hp : RPre w st aF) :
    Calls Tryd.prog 31 #[.pointer (some ⟨b, 0, none⟩), .int .i64 n] w fun e w' => (∃ v, e = .returned v ∧ Bools w' v (st.flags aF n).1 ∧ Fresh w v) ∧ Rd w' b (st.flags aF n).2 ∧ Kp (fun k => k = b) w w' := by
  obtain ⟨l, err⟩ := st
  cases err with
  | some q =>
    obtain ⟨s', a⟩ := q
    refine (rflags_wrong b l n s' a w hR).mono ?_
    rintro e w' ⟨rfl, rfl⟩
    exact ⟨⟨_, rfl, Bools.nil _, fun a k c e => by cases e⟩, hR, Kp.refl _ _⟩
  | none =>
    by_cases h : n < 0 ∨ 65536 < n
    · rw [show RS.flags aF n ⟨l, none⟩ = ([], ⟨l, some (nmFlags, aF)⟩) from by simp only [RS.flags, RS.fail]; rw [if_neg (by omega)]]
      refine (rflags_neg b l n aF w hR hp h).mono ?_
      rintro e w' ⟨rfl, h1, h2⟩
      exact ⟨⟨_, rfl, Bools.nil _, fun a k c e => by cases e⟩, h1, h2⟩
    · obtain ⟨k, rfl⟩ : ∃ k : Nat, n = k := ⟨n.toNat, by omega⟩
      by_cases h2 : (k + 7) / 8 ≤ l.length ∧ lo l k = false
      · rw [show RS.flags aF k ⟨l, none⟩ = (unpk l k, ⟨l.drop ((k + 7) / 8), none⟩) from by
          simp only [RS.flags, Int.toNat_natCast]; rw [if_pos ⟨by omega, by omega, h2⟩]]
        exact rflags_ok b l k w hR (by omega) h2.1 h2.2
      · rw [show RS.flags aF k ⟨l, none⟩ = ([], ⟨l, some (nmFlags, aF)⟩) from by
          simp only [RS.flags, RS.fail, Int.toNat_natCast]; rw [if_neg (fun h => h2 ⟨h.2.2.1, h.2.2.2⟩)]]
        refine (rflags_bad b l k aF w hR hp (by omega) ?_).mono ?_
        · by_cases h3 : (k + 7) / 8 ≤ l.length
          · right
            refine ⟨h3, ?_⟩
            cases h4 : lo l k
            · exact absurd ⟨h3, h4⟩ h2
            · rfl
          · left; omega
        · rintro e w' ⟨rfl, h1, h2⟩
          exact ⟨⟨_, rfl, Bools.nil _, fun a k c e => by cases e⟩, h1, h2⟩
end Go.Proofs.YthngdaeiopgigaaDoor
