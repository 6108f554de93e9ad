/- The reference's Known, blamed, Least; the law's same. -/
import Derived.Test.YthmiacpaefjanaaDoorDa
import Derived.BigQuiet
namespace Go.Proofs.YthmiacpaefjanaaDoor
open Go.RowKit Go.Shelf
theorem own_more {w w' : World} {B n z : Nat} {e : TypeId} {v : Value} {xs : List Value} (h : w.ownsRow B e z v n xs) (hb : Below w.heap.size w w') : w'.ownsRow B e z v n xs := by
  refine ⟨h.1, ?_⟩
  rcases h.2 with h1 | ⟨g, cap, cur, h1, h2, h3, h4⟩
  · exact .inl h1
  · exact .inr ⟨g, cap, cur, h1, h2, (hb.block g (Array.getElem?_eq_some_iff.1 h3).1).trans h3, h4⟩
set_option maxHeartbeats 400000 in
theorem known_yes (n : Int) (w : World) (h1 : 1 ≤ n) (h2 : n ≤ 18) : Calls Tryd.prog 29 #[.int .i64 n] w fun e w' => e = .returned (.bool true) ∧ w' = w := by
  go_enter Tryd.func29, Tryd.ntmps29
  go_wp2
  go_ret
  exact ⟨rfl, rfl⟩
set_option maxHeartbeats 400000 in
theorem known_low (n : Int) (w : World) (h1 : n < 1) : Calls Tryd.prog 29 #[.int .i64 n] w fun e w' => e = .returned (.bool false) ∧ w' = w := by
  have h : ¬ (1 ≤ n) := by omega
  go_enter Tryd.func29, Tryd.ntmps29
  go_wp2
  go_ret
  exact ⟨rfl, rfl⟩
set_option maxHeartbeats 400000 in
theorem known_high (n : Int) (w : World) (h1 : 18 < n) : Calls Tryd.prog 29 #[.int .i64 n] w fun e w' => e = .returned (.bool false) ∧ w' = w := by
  have h : ¬ (n ≤ 18) := by omega
  have h2 : 1 ≤ n := by omega
  go_enter Tryd.func29, Tryd.ntmps29
  go_wp2
  go_ret
  exact ⟨rfl, rfl⟩
theorem known_no (n : Int) (w : World) (h : ¬ (1 ≤ n ∧ n ≤ 18)) : Calls Tryd.prog 29 #[.int .i64 n] w fun e w' => e = .returned (.bool false) ∧ w' = w := by
  by_cases h1 : n < 1
  · exact known_low n w h1
  · exact known_high n w (by omega)
def wayB (t : Twg) : Bool := t.k == 1
theorem any_next {α : Type} (f : α → Bool) {l : List α} {k : Nat} {x : α} (h : l[k]? = some x) : (l.take (k + 1)).any f = ((l.take k).any f || f x) := by
  rw [take_next h, List.any_append]; simp
set_option maxHeartbeats 400000 in
set_option maxRecDepth 100000 in
theorem blamed_any (w : World) (v : Value) (ts : List Twg) (h : TwRow w v ts) (hl : ts.length ≤ 12) :
    Calls Tryd.prog 28 #[v] w fun e w' => e = .returned (.bool (ts.any wayB)) ∧ w' = w := by
  obtain ⟨a, c, rfl, h1⟩ := h
  have H1 := hid h1
  clear h1
  have hli : (ts.length : Int) ≤ 12 := by omega
  go_enter Tryd.func28, Tryd.ntmps28
  go_wp2_with fail
  go_loop [3] (fun i => ∃ k : Nat, k ≤ ts.length ∧ i = .int .i64 (k : Int) ∧ (ts.take k).any wayB = false) (fun i => ts.length - (intOf i).toNat)
  case atStart => exact ⟨0, Nat.zero_le _, rfl, rfl⟩
  case round =>
    obtain ⟨k, hk, rfl, hn⟩ := hrel
    have HN := hid hn
    clear hn
    by_cases hlt : k < ts.length
    · have hki : (k : Int) < (ts.length : Int) := by omega
      obtain ⟨t, ht⟩ := at_lt ts k hlt
      have AN := hid (any_next wayB ht)
      have HG := hid ht
      obtain ⟨b, o, rfl, hc⟩ : ∃ b o, a = some ⟨b, o, none⟩ ∧ Cells3 w b o ts := by
        rcases H1.out with h | h
        · rw [h] at hlt; simp at hlt
        · exact h
      obtain ⟨c0, -, -⟩ := hc k t ht
      clear hc ht
      by_cases hq : t.k = 1
      · have q1 : (t.k == 1) = true := by simp [hq]
        have R : Hid (ts.any wayB = true) := by
          show _ = _
          exact List.any_eq_true.2 ⟨t, List.mem_of_getElem? HG.out, q1⟩
        go_wp2_with fail
        go_ret
        exact ⟨by rw [R.out]; rfl, rfl⟩
      · have q1 : (t.k == 1) = false := by simp [hq]
        have R : Hid ((ts.take (k + 1)).any wayB = false) := by show _ = _; rw [AN.out, HN.out]; exact q1
        go_wp2_with fail
        go_round
        case rel => exact ⟨k + 1, by omega, by go_num, R.out⟩
        case measure => simp [intOf]; omega
    · have hki : ¬ ((k : Int) < (ts.length : Int)) := by omega
      have R : Hid (ts.any wayB = false) := by show _ = _; rw [← HN.out, List.take_of_length_le (by omega)]
      go_wp2_with fail
      go_ret
      exact ⟨by rw [R.out]; rfl, rfl⟩
/-- The least of numbers, as Least goes. -/
def least (l : List Nat) : Nat := l.foldl (fun n x => if n = 0 ∨ x < n then x else n) 0
theorem least_next {l : List Nat} {k x : Nat} (h : l[k]? = some x) : least (l.take (k + 1)) = if least (l.take k) = 0 ∨ x < least (l.take k) then x else least (l.take k) := by
  unfold least
  rw [take_next h, List.foldl_append]; rfl
theorem snd_at {ls : List (List ByteArray × Nat)} {k : Nat} {p : List ByteArray × Nat} (h : ls[k]? = some p) : (ls.map Prod.snd)[k]? = some p.2 := by simp [h]
set_option maxHeartbeats 400000 in
set_option maxRecDepth 100000 in
theorem least_any (w : World) (B : Nat) (v : Value) (ls : List (List ByteArray × Nat)) (h : w.ownsRow B 36 2 v ls.length (leafCells ls)) (hl : ls.length ≤ 1000) :
    Calls Tryd.prog 13 #[v] w fun e w' => e = .returned (.int .i64 (least (ls.map Prod.snd) : Int)) ∧ w' = w := by
  have HO := hid h
  obtain ⟨a, c, rfl⟩ := own_slice h
  clear h
  have hli : (ls.length : Int) ≤ 1000 := by omega
  go_enter Tryd.func13, Tryd.ntmps13
  go_wp2_with fail
  go_loop [3, 4] (fun n i => ∃ k : Nat, k ≤ ls.length ∧ i = .int .i64 (k : Int) ∧ ∃ m : Nat, Hid (m = least ((ls.map Prod.snd).take k)) ∧ n = .int .i64 (m : Int)) (fun _ i => ls.length - (intOf i).toNat)
  case atStart => exact ⟨0, Nat.zero_le _, rfl, 0, rfl, rfl⟩
  case round =>
    obtain ⟨k, hk, rfl, m, HM, rfl⟩ := hrel
    by_cases hlt : k < ls.length
    · have hki : (k : Int) < (ls.length : Int) := by omega
      obtain ⟨p, hp⟩ := at_lt ls k hlt
      have LN := hid (least_next (snd_at hp))
      obtain ⟨e1, e2⟩ := leafCells_at ls k p hp
      obtain ⟨g, d, f, -, -⟩ := World.ownsRow.form HO.out (by omega)
      have O' := HO.out
      rw [f] at O'
      have c2 : w.cell? ⟨g, k * 2 + 1, none⟩ = some (.int .i64 (p.2 : Int)) := (O'.cellAt (k * 2 + 1) (by omega)).trans e2
      obtain ⟨rfl, rfl⟩ : a = some ⟨g, 0, none⟩ ∧ c = d := by simpa using f
      clear O' f e1 e2 hp
      generalize p.2 = q at *
      by_cases hz : m = 0
      · have q1 : ((m : Int) == 0) = true := by simp [hz]
        have R : Hid (q = least ((ls.map Prod.snd).take (k + 1))) := by show _ = _; rw [LN.out, ← HM.out, if_pos (.inl hz)]
        go_wp2_with fail
        go_round
        case rel => exact ⟨k + 1, by omega, by go_num, q, R.out, rfl⟩
        case measure => simp [intOf]; omega
      · have q1 : ((m : Int) == 0) = false := by simp [hz]
        by_cases hq : q < m
        · have q2 : (q : Int) < (m : Int) := by omega
          have R : Hid (q = least ((ls.map Prod.snd).take (k + 1))) := by show _ = _; rw [LN.out, ← HM.out, if_pos (.inr hq)]
          go_wp2_with fail
          go_round
          case rel => exact ⟨k + 1, by omega, by go_num, q, R.out, rfl⟩
          case measure => simp [intOf]; omega
        · have q2 : ¬ ((q : Int) < (m : Int)) := by omega
          have R : Hid (m = least ((ls.map Prod.snd).take (k + 1))) := by show _ = _; rw [LN.out, ← HM.out, if_neg (by omega)]
          go_wp2_with fail
          go_round
          case rel => exact ⟨k + 1, by omega, by go_num, m, R.out, rfl⟩
          case measure => simp [intOf]; omega
    · have hki : ¬ ((k : Int) < (ls.length : Int)) := by omega
      have R : Hid (m = least (ls.map Prod.snd)) := by show _ = _; rw [HM.out, List.take_of_length_le (by simp; omega)]
      go_wp2_with fail
      go_ret
      exact ⟨by rw [R.out]; rfl, rfl⟩
set_option maxHeartbeats 800000 in
set_option maxRecDepth 100000 in
theorem same_any (w : World) (B B' : Nat) (u v : Value) (ls : List (List ByteArray × Nat)) (hu : w.ownsRow B 47 2 u ls.length (leafCells ls)) (h : w.ownsRow B' 36 2 v ls.length (leafCells ls)) (hl : ls.length ≤ 1000) :
    Calls Tryd.prog 14 #[u, v] w fun e w' => e = .returned (.bool true) ∧ Below w.heap.size w w' := by
  have HO := hid h
  have HU := hid hu
  obtain ⟨a, c, rfl⟩ := own_slice h
  obtain ⟨a', c', rfl⟩ := own_slice hu
  clear h hu
  have hli : (ls.length : Int) ≤ 1000 := by omega
  go_enter Tryd.func14, Tryd.ntmps14
  go_wp2_with fail
  go_loopw [5] (fun i wr => ∃ k : Nat, k ≤ ls.length ∧ i = .int .i64 (k : Int) ∧ Below w.heap.size w wr) (fun i _ => ls.length - (intOf i).toNat)
  case atStart => exact ⟨0, Nat.zero_le _, rfl, Below.refl _ _⟩
  case round =>
    obtain ⟨k, hk, rfl, hb⟩ := hrel
    have HB := hid hb
    by_cases hlt : k < ls.length
    · have hki : (k : Int) < (ls.length : Int) := by omega
      obtain ⟨p, hp⟩ := at_lt ls k hlt
      obtain ⟨e1, e2⟩ := leafCells_at ls k p hp
      obtain ⟨g, d, f, -, hg⟩ := World.ownsRow.form HO.out (by omega)
      obtain ⟨g', d', f', -, hg'⟩ := World.ownsRow.form HU.out (by omega)
      have O' := HO.out
      rw [f] at O'
      have U' := HU.out
      rw [f'] at U'
      have c1 : wr.cell? ⟨g, k * 2, none⟩ = some (.string (joinB p.1)) := (hb.cell (p := ⟨g, k * 2, none⟩) hg).trans ((O'.cellAt (k * 2) (by omega)).trans e1)
      have c2 : wr.cell? ⟨g, k * 2 + 1, none⟩ = some (.int .i64 (p.2 : Int)) := (hb.cell (p := ⟨g, k * 2 + 1, none⟩) hg).trans ((O'.cellAt (k * 2 + 1) (by omega)).trans e2)
      have d1 : wr.cell? ⟨g', k * 2, none⟩ = some (.string (joinB p.1)) := (hb.cell (p := ⟨g', k * 2, none⟩) hg').trans ((U'.cellAt (k * 2) (by omega)).trans e1)
      have d2 : wr.cell? ⟨g', k * 2 + 1, none⟩ = some (.int .i64 (p.2 : Int)) := (hb.cell (p := ⟨g', k * 2 + 1, none⟩) hg').trans ((U'.cellAt (k * 2 + 1) (by omega)).trans e2)
      obtain ⟨rfl, rfl⟩ : a = some ⟨g, 0, none⟩ ∧ c = d := by simpa using f
      obtain ⟨rfl, rfl⟩ : a' = some ⟨g', 0, none⟩ ∧ c' = d' := by simpa using f'
      clear O' f e1 e2 hp U' f' hb
      generalize p.2 = q at *
      generalize joinB p.1 = x at *
      go_wp2_with fail
      go_quiet (fail)
      go_wp2_with fail
      go_roundw
      case rel => exact ⟨k + 1, by omega, by go_num, Below.trans HB.out ⟨rfl, rfl, rfl, Nat.le_refl _, fun _ _ => rfl⟩⟩
      case measure => simp [intOf]; omega
    · have hki : ¬ ((k : Int) < (ls.length : Int)) := by omega
      clear hb
      go_wp2_with fail
      go_ret
      exact ⟨rfl, HB.out⟩
end Go.Proofs.YthmiacpaefjanaaDoor
