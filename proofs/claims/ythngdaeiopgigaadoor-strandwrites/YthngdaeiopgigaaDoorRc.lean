/- Contracts of strand's reader: numbers. -/
import Derived.Test.YthngdaeiopgigaaDoorRb
namespace Go.Proofs.YthngdaeiopgigaaDoor
open Go.ChangeShapes Go.WideShapes Go.ChangeAt Go.RowKit
def RS.fail (s : ByteArray) (aF : Addr) (st : RS) : RS := ⟨st.rest, some (s, aF)⟩
def RS.number (s : ByteArray) (aF : Addr) (m : Int) (st : RS) : Nat × RS := match st.err with
  | some _ => (0, st)
  | none => match ung st.rest with
    | some (n, t) => if (n : Int) ≤ m then (n, ⟨t, none⟩) else (0, st.fail s aF)
    | none => (0, st.fail s aF)
theorem ungR_eq_some {l t : List UInt8} {n : Nat} (h : ung l = some (n, t)) : ungR l = .tuple #[.int .u64 n, .int .i64 (grp n).length] := by simp [ungR, h]
theorem ungR_eq_none {l : List UInt8} (h : ung l = none) : ungR l = .tuple #[.int .u64 0, .int .i64 0] := by simp [ungR, h]
theorem rd_took {w : World} {b k : Nat} {s : ByteArray} {t : List UInt8} (hb : w.heap[b]? = some (.cells #[.string ⟨#[]⟩, .nilIface, .string s] 72 (0, 0))) (ht : (s.extract k s.size).data.toList = t) :
    Rd (w.setCell ⟨b, 2, none⟩ (.string (s.extract k s.size))) b ⟨t, none⟩ ∧ Kp (fun j => j = b) w (w.setCell ⟨b, 2, none⟩ (.string (s.extract k s.size))) :=
  ⟨⟨_, ht, by rw [blk_set hb 2 _]; rfl⟩, Kp.setCell (X := fun j => j = b) (Kp.refl _ _) (fun _ => rfl) _⟩
theorem drop_grp {l t : List UInt8} {n : Nat} (h : l = grp n ++ t) : l.drop (grp n).length = t := by rw [h]; exact List.drop_left
theorem extract_rest (s : ByteArray) (k : Nat) : (s.extract k s.size).data.toList = s.data.toList.drop k := by
  rw [extract_list]
  exact List.take_of_length_le (by simp)
/-- What the calls that read ask of the world. -/
structure RPre (w : World) (st : RS) (aF : Addr) : Prop where
  hl : st.rest.length ≤ 10000000
  hF : w.cell? ⟨0, 0, none⟩ = some (.iface 113 (.pointer (some aF)))
  h1 : 0 < w.heap.size
theorem RPre.new {w w' : World} {st : RS} {aF : Addr} (h : RPre w st aF) (hb : Below w.heap.size w w') : RPre w' st aF :=
  ⟨h.hl, (hb.cell (p := ⟨0, 0, none⟩) (by have := h.h1; simp; omega)).trans h.hF, Nat.lt_of_lt_of_le h.h1 hb.size⟩
set_option maxHeartbeats 800000 in
set_option maxRecDepth 100000 in
theorem number_any (b : Nat) (st : RS) (s : ByteArray) (m : Int) (aF : Addr) (w : World) (hR : Rd w b st) (hp : RPre w st aF) :
    Calls Tryd.prog 56 #[.pointer (some ⟨b, 0, none⟩), .string s, .int .u64 m] w fun e w' => e = .returned (.int .u64 (st.number s aF m).1) ∧ Rd w' b (st.number s aF m).2 ∧ Kp (fun k => k = b) w w' := by
  obtain ⟨l, err⟩ := st
  cases err with
  | some q =>
    obtain ⟨s', a⟩ := q
    have c1 := hR.c1_yes
    rw [show RS.number s aF m ⟨l, some (s', a)⟩ = (0, ⟨l, some (s', a)⟩) from rfl]
    go_enter Tryd.func56, Tryd.ntmps56
    go_wp2_with (go_at_call 53; refine (rclosed_yes _ a _ ?_).mono ?_; exact c1; rintro e w' ⟨rfl, rfl⟩)
    go_ret
    exact ⟨rfl, hR, Kp.refl _ _⟩
  | none =>
    have c1 := hR.c1_no
    obtain ⟨r, hr, hb⟩ := id hR
    simp only at hr
    subst hr
    have c2 : w.cell? ⟨b, 2, none⟩ = some (.string r) := blk_cell hb 2
    have hrl : r.size ≤ 10000000 := by simpa using hp.hl
    have hF := hp.hF
    cases hu : ung r.data.toList with
    | none =>
      have hur := ungR_eq_none hu
      rw [show RS.number s aF m ⟨r.data.toList, none⟩ = (0, ⟨r.data.toList, some (s, aF)⟩) from by simp [RS.number, hu, RS.fail]]
      clear hu
      go_enter Tryd.func56, Tryd.ntmps56
      go_wp2_with (first | (go_at_call 53; refine (rclosed_no _ _ ?_).mono ?_; exact c1; rintro e w' ⟨rfl, rfl⟩) | (go_at_call 58; refine (ungroup_any r hrl _).mono ?_; rw [hur]; rintro e w' ⟨rfl, rfl⟩) | (go_at_call 54; refine (refuse_any b _ s aF _ hR hF).mono ?_; rintro e w' ⟨rfl, hR', hK'⟩))
      go_ret
      exact ⟨rfl, hR', hK'⟩
    | some q =>
      obtain ⟨n, t⟩ := q
      have hur := ungR_eq_some hu
      obtain ⟨hs1, hs2⟩ := ung_sound hu
      have hpos := grp_pos n
      have hlen := grp_len10 hs2
      have hk : (grp n).length ≤ r.size := by
        have := congrArg List.length hs1
        simp at this; omega
      have ht : (r.extract (grp n).length r.size).data.toList = t := by rw [extract_rest]; exact drop_grp hs1
      have hz : (((grp n).length : Int) == 0) = false := beq_eq_false_iff_ne.2 (by omega)
      by_cases hm : (n : Int) ≤ m
      · rw [show RS.number s aF m ⟨r.data.toList, none⟩ = (n, ⟨t, none⟩) from by simp [RS.number, hu, hm]]
        have hm2 : ¬ m < (n : Int) := by omega
        have HT : Hid ((r.extract (grp n).length r.size).data.toList = t) := ht
        clear hu hs1 hs2 ht
        go_enter Tryd.func56, Tryd.ntmps56
        go_wp2_with (first | (go_at_call 53; refine (rclosed_no _ _ ?_).mono ?_; exact c1; rintro e w' ⟨rfl, rfl⟩) | (go_at_call 58; refine (ungroup_any r hrl _).mono ?_; rw [hur]; rintro e w' ⟨rfl, rfl⟩) | (go_at_call 55; refine (take_any b (grp n).length r _ hb hk).mono ?_; rintro e w' ⟨rfl, rfl⟩))
        go_ret
        exact ⟨rfl, rd_took hb HT.out⟩
      · rw [show RS.number s aF m ⟨r.data.toList, none⟩ = (0, ⟨r.data.toList, some (s, aF)⟩) from by simp [RS.number, hu, hm, RS.fail]]
        have hm2 : m < (n : Int) := by omega
        clear hu hs1 hs2 ht
        go_enter Tryd.func56, Tryd.ntmps56
        go_wp2_with (first | (go_at_call 53; refine (rclosed_no _ _ ?_).mono ?_; exact c1; rintro e w' ⟨rfl, rfl⟩) | (go_at_call 58; refine (ungroup_any r hrl _).mono ?_; rw [hur]; rintro e w' ⟨rfl, rfl⟩) | (go_at_call 54; refine (refuse_any b _ s aF _ hR hF).mono ?_; rintro e w' ⟨rfl, hR', hK'⟩))
        go_ret
        exact ⟨rfl, hR', hK'⟩
end Go.Proofs.YthngdaeiopgigaaDoor
