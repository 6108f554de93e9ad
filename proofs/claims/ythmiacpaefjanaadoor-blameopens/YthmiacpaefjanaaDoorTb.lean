/- grown: the error of a row of twigs. -/
import Derived.Test.YthmiacpaefjanaaDoorTa
namespace Go.Proofs.YthmiacpaefjanaaDoor
open Go.RowKit Go.Shelf
/-- The places of a row, the outermost first. -/
def ways (ts : List Twg) : List ByteArray := (ts.filter fun t => t.k == 1).map Twg.s
def isEnd (t : Twg) : Bool := t.k == 2 && t.n != 0
def endAt (ts : List Twg) : Nat := ts.findIdx isEnd
/-- The leaf of a row of twigs, if it has one. -/
def leafOf (ts : List Twg) : List (List ByteArray × Nat) := match ts[endAt ts]? with
  | some t => if 1 ≤ t.n ∧ t.n ≤ 18 then [(ways (ts.take (endAt ts)), t.n.toNat)] else []
  | none => []
theorem leafOf_none {ts : List Twg} (h : ∀ t ∈ ts, isEnd t = false) : leafOf ts = [] := by
  have : endAt ts = ts.length := List.findIdx_eq_length.2 h
  unfold leafOf
  rw [this]; simp
theorem endAt_eq {ts : List Twg} {k : Nat} {t : Twg} (ht : ts[k]? = some t) (h1 : isEnd t = true) (h : ∀ x ∈ ts.take k, isEnd x = false) : endAt ts = k := by
  obtain ⟨hk, e⟩ := List.getElem?_eq_some_iff.1 ht
  refine (List.findIdx_eq hk).2 ⟨by rw [e]; exact h1, fun j hj => ?_⟩
  exact h _ (List.mem_take_iff_getElem.2 ⟨j, by omega, rfl⟩)
theorem leafOf_some {ts : List Twg} {k : Nat} {t : Twg} (ht : ts[k]? = some t) (h1 : isEnd t = true) (h : ∀ x ∈ ts.take k, isEnd x = false) : leafOf ts = if 1 ≤ t.n ∧ t.n ≤ 18 then [(ways (ts.take k), t.n.toNat)] else [] := by
  have := endAt_eq ht h1 h
  unfold leafOf
  rw [this, ht]
theorem Chn.mono {Ad : Nat → Addr} {n₀ d d' : Nat} {W : World} {v : Value} {p : List ByteArray × Nat} (h : Chn Ad n₀ W d v p) (hd : p.1.length ≤ d') : Chn Ad n₀ W d' v p := ⟨h.1, h.2.1, h.2.2.1, hd⟩
theorem ways_len (ts : List Twg) : (ways ts).length ≤ ts.length := by
  unfold ways
  rw [List.length_map]
  exact List.length_filter_le _ _
theorem ways_step {ts : List Twg} {m : Nat} {t : Twg} (h : ts[m]? = some t) : ways (ts.drop m) = (if t.k == 1 then [t.s] else []) ++ ways (ts.drop (m + 1)) := by
  obtain ⟨hk, e⟩ := List.getElem?_eq_some_iff.1 h
  rw [List.drop_eq_getElem_cons hk, e]
  unfold ways
  by_cases h1 : t.k == 1 <;> simp [h1]
set_option maxHeartbeats 800000 in
theorem of_low (n : Int) (h : n < 1) (w : World) : Calls Tryd.prog 18 #[.int .i64 n] w fun e w' => e = .returned .nilIface ∧ w' = w := by
  have h2 : ¬ (1 ≤ n) := by omega
  go_enter Tryd.func18, Tryd.ntmps18
  go_wp2
  go_ret
  exact ⟨rfl, rfl⟩
set_option maxHeartbeats 800000 in
theorem of_high (n : Int) (h : 18 < n) (w : World) : Calls Tryd.prog 18 #[.int .i64 n] w fun e w' => e = .returned .nilIface ∧ w' = w := by
  have h2 : ¬ (n < 1) := by omega
  go_enter Tryd.func18, Tryd.ntmps18
  go_wp2
  go_ret
  exact ⟨rfl, rfl⟩
theorem of_out (n : Int) (h : ¬ (1 ≤ n ∧ n ≤ 18)) (w : World) : Calls Tryd.prog 18 #[.int .i64 n] w fun e w' => e = .returned .nilIface ∧ w' = w := by
  by_cases h1 : n < 1
  · exact of_low n h1 w
  · exact of_high n (by omega) w
end Go.Proofs.YthmiacpaefjanaaDoor
