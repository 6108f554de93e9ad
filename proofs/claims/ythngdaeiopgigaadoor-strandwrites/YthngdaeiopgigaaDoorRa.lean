/- Contracts of strand's reader: its state, and the small functions. -/
import Derived.Test.YthngdaeiopgigaaDoorWf
namespace Go.Proofs.YthngdaeiopgigaaDoor
open Go.ChangeShapes Go.WideShapes Go.ChangeAt Go.RowKit
/-- A reader's state: what isn't taken, and what went wrong. -/
structure RS where
  rest : List UInt8
  err : Option (ByteArray × Addr)
def RS.c0 (st : RS) : Value := match st.err with | none => .string ⟨#[]⟩ | some (s, _) => .string s
def RS.c1 (st : RS) : Value := match st.err with | none => .nilIface | some (_, a) => .iface 113 (.pointer (some a))
def Rd (w : World) (b : Nat) (st : RS) : Prop := ∃ s : ByteArray, s.data.toList = st.rest ∧ w.heap[b]? = some (.cells #[st.c0, st.c1, .string s] 72 (0, 0))
def RS.wrong (st : RS) : Bool := st.err.isSome
theorem Rd.foot {w : World} {b : Nat} {st : RS} (h : Rd w b st) {k : Nat} (hk : foot w b k) : k = b := by
  obtain ⟨s, _, hb⟩ := h
  rcases hk with rfl | ⟨u, hu, hk⟩
  · rfl
  · rw [blk_cell hb 3] at hu; simp at hu
theorem Rd.foots {w : World} {b : Nat} {st : RS} (h : Rd w b st) : Foots w b := by
  intro k hk
  rw [h.foot hk]
  obtain ⟨s, _, hb⟩ := h
  exact lt_of_block hb
theorem Rd.kept {w w' : World} {b : Nat} {st : RS} (h : Rd w b st) (hk : w'.heap[b]? = w.heap[b]?) : Rd w' b st := by
  obtain ⟨s, hs, hb⟩ := h
  exact ⟨s, hs, hk.trans hb⟩
theorem Rd.new {w w' : World} {b : Nat} {st : RS} (h : Rd w b st) (hb : Below w.heap.size w w') : Rd w' b st := h.kept (hb.block b h.foots.lt)
/-- A step that keeps all blocks but the reader's own. -/
theorem Rd.stp {w w' : World} {b : Nat} {st' : RS} (h' : Rd w' b st') (hk : Kp (fun k => k = b) w w') : Stp b w w' :=
  ⟨hk.mono (fun _ _ h => .inl h), fun _ hk => .inl (.inl (h'.foot hk))⟩
set_option maxHeartbeats 400000 in
theorem newReader_any (s : ByteArray) (w : World) :
    Calls Tryd.prog 16 #[.string s] w fun e w' => e = .returned (.pointer (some ⟨w.heap.size, 0, none⟩)) ∧ Rd w' w.heap.size ⟨s.data.toList, none⟩ ∧ Below w.heap.size w w' := by
  go_enter Tryd.func16, Tryd.ntmps16
  go_wp2
  go_ret
  exact ⟨rfl, ⟨s, rfl, blk_new _ _⟩, (Below.refl _ _).alloc (Nat.le_refl _) _⟩
set_option maxHeartbeats 400000 in
theorem rclosed_no (b : Nat) (w : World) (h : w.cell? ⟨b, 1, none⟩ = some .nilIface) :
    Calls Tryd.prog 53 #[.pointer (some ⟨b, 0, none⟩)] w fun e w' => e = .returned (.bool false) ∧ w = w' := by
  go_enter Tryd.func53, Tryd.ntmps53
  go_wp2_with (go_at_call 37; refine (wrong_no _ _ ?_).mono ?_; exact h; rintro e w' ⟨rfl, rfl⟩)
  go_ret
  exact ⟨rfl, rfl⟩
set_option maxHeartbeats 400000 in
theorem rclosed_yes (b : Nat) (a : Addr) (w : World) (h : w.cell? ⟨b, 1, none⟩ = some (.iface 113 (.pointer (some a)))) :
    Calls Tryd.prog 53 #[.pointer (some ⟨b, 0, none⟩)] w fun e w' => e = .returned (.bool true) ∧ w = w' := by
  go_enter Tryd.func53, Tryd.ntmps53
  go_wp2_with (go_at_call 37; refine (wrong_yes _ a _ ?_).mono ?_; exact h; rintro e w' ⟨rfl, rfl⟩)
  go_ret
  exact ⟨rfl, rfl⟩
set_option maxHeartbeats 400000 in
theorem rclosed_nil (w : World) :
    Calls Tryd.prog 53 #[.pointer none] w fun e w' => e = .returned (.bool true) ∧ w = w' := by
  go_enter Tryd.func53, Tryd.ntmps53
  go_wp2
  go_ret
  exact ⟨rfl, rfl⟩
theorem Rd.c1_no {w : World} {b : Nat} {l : List UInt8} (h : Rd w b ⟨l, none⟩) : w.cell? ⟨b, 1, none⟩ = some .nilIface := by obtain ⟨s, _, hb⟩ := h; exact blk_cell hb 1
theorem Rd.c1_yes {w : World} {b : Nat} {l : List UInt8} {s : ByteArray} {a : Addr} (h : Rd w b ⟨l, some (s, a)⟩) : w.cell? ⟨b, 1, none⟩ = some (.iface 113 (.pointer (some a))) := by obtain ⟨s, _, hb⟩ := h; exact blk_cell hb 1
theorem rd_failed {w : World} {b nq : Nat} {s : ByteArray} {a : Addr} {l : List UInt8} (h : Rd w b ⟨l, none⟩) :
    Rd (((w.drewN nq).setCell ⟨b, 0, none⟩ (.string s)).setCell ⟨b, 1, none⟩ (.iface 113 (.pointer (some a)))) b ⟨l, some (s, a)⟩ ∧ Kp (fun k => k = b) w (((w.drewN nq).setCell ⟨b, 0, none⟩ (.string s)).setCell ⟨b, 1, none⟩ (.iface 113 (.pointer (some a)))) := by
  obtain ⟨r, hr, hb⟩ := h
  have hb1 : (w.drewN nq).heap[b]? = some (.cells #[.string ⟨#[]⟩, .nilIface, .string r] 72 (0, 0)) := hb
  refine ⟨⟨r, hr, ?_⟩, Kp.setCell (X := fun k => k = b) (Kp.setCell (X := fun k => k = b) ((Kp.refl _ _).drewN nq) (fun _ => rfl) _) (fun _ => rfl) _⟩
  rw [blk_set (blk_set hb1 0 _) 1 _]; rfl
set_option maxHeartbeats 800000 in
set_option maxRecDepth 100000 in
theorem refuse_any (b : Nat) (l : List UInt8) (s : ByteArray) (aF : Addr) (w : World) (hR : Rd w b ⟨l, none⟩) (hE : w.cell? ⟨0, 0, none⟩ = some (.iface 113 (.pointer (some aF)))) :
    Calls Tryd.prog 54 #[.pointer (some ⟨b, 0, none⟩), .string s] w fun e w' => e = .returned (.tuple #[]) ∧ Rd w' b ⟨l, some (s, aF)⟩ ∧ Kp (fun k => k = b) w w' := by
  obtain ⟨r, hr, hb⟩ := id hR
  have c0 : w.cell? ⟨b, 0, none⟩ = some (.string ⟨#[]⟩) := blk_cell hb 0
  have c1 : w.cell? ⟨b, 1, none⟩ = some .nilIface := blk_cell hb 1
  have f0 : w.frozen? ⟨b, 0, none⟩ = false := blk_free hb 0
  have f1 : w.frozen? ⟨b, 1, none⟩ = false := blk_free hb 1
  go_enter Tryd.func54, Tryd.ntmps54
  go_region_with (go_at_call 49; refine (fail_any _ _ _ _ _ (.string ⟨#[]⟩) .nilIface ?_ ?_ ?_ ?_).mono ?_; exact c0; exact c1; exact f0; exact f1; rintro e w' ⟨rfl, rfl⟩)
  all_goals go_end0
  all_goals exact ⟨rfl, rd_failed hR⟩
theorem extract_list (s : ByteArray) (a b : Nat) : (s.extract a b).data.toList = (s.data.toList.drop a).take (b - a) := by
  simp [ByteArray.data_extract, Array.toList_extract, List.extract_eq_take_drop]
set_option maxHeartbeats 800000 in
set_option maxRecDepth 100000 in
theorem take_any (b n : Nat) (s : ByteArray) (w : World) (hb : w.heap[b]? = some (.cells #[.string ⟨#[]⟩, .nilIface, .string s] 72 (0, 0))) (hn : n ≤ s.size) :
    Calls Tryd.prog 55 #[.pointer (some ⟨b, 0, none⟩), .int .i64 n] w fun e w' => e = .returned (.string (s.extract 0 n)) ∧ w' = w.setCell ⟨b, 2, none⟩ (.string (s.extract n s.size)) := by
  have c2 : w.cell? ⟨b, 2, none⟩ = some (.string s) := blk_cell hb 2
  have f2 : w.frozen? ⟨b, 2, none⟩ = false := blk_free hb 2
  go_enter Tryd.func55, Tryd.ntmps55
  go_wp2
  go_ret
  exact ⟨rfl, rfl⟩
end Go.Proofs.YthngdaeiopgigaaDoor
