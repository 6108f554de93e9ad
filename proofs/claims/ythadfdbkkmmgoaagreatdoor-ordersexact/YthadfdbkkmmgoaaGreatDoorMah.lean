/- Texts in one. -/
import Derived.Deep.AppendLies
import Derived.OneCell
import Derived.Maps.AppendAt
import Derived.Maps.OwnSet
import Derived.Laws.IdiomStrings
import Derived.Lib.Strings
import Derived.Lib.ItoaNum
import Derived.Test.YthadfdbkkmmgoaaGreatDoorMag
namespace Go.Proofs.YthadfdbkkmmgoaaGreatDoor
open Go.RowKit Go.Shelf
attribute [local go_sem] Oper.semAt_some
/-- A way as a text. -/
def joinB (ws : List ByteArray) : ByteArray := ⟨(Lib.join (ws.map (·.data.toList)) [47]).toArray⟩
def leafCells (ls : List (List ByteArray × Nat)) : List Value := ls.flatMap fun p => [.string (joinB p.1), .int .i64 (p.2 : Int)]
theorem numOf_one : ∀ k, k < 18 → numOf [k + 1] = (k : Int) + 1 := by decide
theorem own_far {w w' : World} {B n z : Nat} {e : TypeId} {v : Value} {xs : List Value} (h : w.ownsRow B e z v n xs) (hb : Below w.heap.size w w') : w'.ownsRow B e z v n xs := by
  refine ⟨h.1, ?_⟩
  rcases h.2 with h1 | ⟨g, cap, cur, h1, h2, h3, h4⟩
  · exact .inl h1
  · exact .inr ⟨g, cap, cur, h1, h2, (hb.block g (Array.getElem?_eq_some_iff.1 h3).1).trans h3, h4⟩
theorem own_turn {P : Obj → Prop} {N : Nat} {w w' : World} {B n z : Nat} {e : TypeId} {v : Value} {xs : List Value} (h : w.ownsRow B e z v n xs) (ht : Turn P N w w') (hP : ∀ cur, ¬ P (.cells cur e (0, 0))) : w'.ownsRow B e z v n xs := by
  refine ⟨h.1, ?_⟩
  rcases h.2 with h1 | ⟨g, cap, cur, h1, h2, h3, h4⟩
  · exact .inl h1
  · exact .inr ⟨g, cap, cur, h1, h2, ht.block g _ h3 (.inr (hP cur)), h4⟩
theorem own_at {w : World} {B n z : Nat} {e : TypeId} {v : Value} {xs : List Value} (h : w.ownsRow B e z v n xs) {g : Nat} (hg : v.ownBlock = some g) : B ≤ g ∧ ∃ cur, w.heap[g]? = some (.cells cur e (0, 0)) := by
  rcases h.2 with ⟨h1, _⟩ | ⟨g', cap, cur, h1, h2, h3, h4⟩
  · rw [h1] at hg; cases hg
  · rw [h1] at hg
    simp [Value.ownBlock] at hg
    subst hg
    exact ⟨h2, cur, h3⟩
theorem leaf_number (Ad : Nat → Addr) (k : Nat) (w : World) (hE : Env w Ad) (h1 : 1 ≤ k) (h2 : k ≤ 18) :
    Calls Tryz.prog 14 #[.iface 330 (.pointer (some (Ad k)))] w fun e w' => e = .returned (.int .i64 (k : Int)) ∧ Below w.heap.size w w' := by
  have h := number_some Ad (.iface 330 (.pointer (some (Ad k)))) [([], k)] 0 w hE (.leaf 0 k ⟨h1, h2⟩) (by omega) ⟨_, _, rfl⟩
  obtain ⟨j, rfl⟩ : ∃ j, k = j + 1 := ⟨k - 1, by omega⟩
  rw [show numOf ([([], j + 1)].map Prod.snd) = ((j + 1 : Nat) : Int) by show numOf [j + 1] = _; rw [numOf_one j (by omega)]; rfl] at h
  exact h
end Go.Proofs.YthadfdbkkmmgoaaGreatDoor
namespace Go.Proofs.YthadfdbkkmmgoaaGreatDoor.Sc
open Go.RowKit Go.Shelf
/-- append of a row of errors onto an owned one: what was not the owned block stays. -/
theorem wpList_errsG (w : World) {ops : Array Oper} {rest : List Oper} {o : Oper} {a : Act} {Q : Exit → Act → World → Prop} (hgd : o.guard = none) (s x : Operand)
    (ho : o.op = .call { callee := .builtin .append, args := #[s, x], argTypes := #[154, 154] })
    (base : Nat) (v : Value) (xs : List Value) (hs : a.eval s = v) (hown : w.ownsRow base 31 1 v xs.length xs)
    (g c : Nat) (l : List Value) (hx : a.eval x = .slice (some ⟨g, 0, none⟩) l.length c) (hrow : ∀ (j : Nat) u, l[j]? = some u → w.cell? ⟨g, j, none⟩ = some u) (h1 : ∀ u ∈ l, u.oneCell' = true) (hlen : xs.length + l.length ≤ 5000) (hbase : base ≤ w.heap.size)
    (h : ∀ ga gc (y : List Value) w', Hid (y = xs ++ l) → Hid (w'.ownsRow base 31 1 (.slice ga y.length gc) y.length y) → Hid (w.grownBy w' v.ownBlock) → Hid (Below base w w') → wpList Tryz.prog ops Q rest (a.put o.dst (.slice ga y.length gc)) w') :
    wpList Tryz.prog ops Q (o :: rest) a w := by
  obtain ⟨i0, hi, hz0, hz1, hz2⟩ := info_parts Tryz.infoErr
  refine wpList_append_own_at w hgd s x 154 ho base 31 i0 .nilIface 1 16 Tryz.underlying154 hi hz0 hz1 hz2 rfl (by decide) v xs.length xs hs hown ⟨g, 0, none⟩ l.length c l hx (by simp) (fun j u hu => by rw [add_at]; exact hrow j u hu) h1 (by simp [maxLen]; omega) (by omega) hbase ?_
  intro v' w' hown' hgrow _ _
  have e : xs.length + l.length = (xs ++ l).length := by simp
  rw [e] at hown'
  obtain ⟨ga, gc, rfl⟩ := own_slice hown'
  exact h ga gc (xs ++ l) w' rfl hown' hgrow ((Below.refl _ _).grown hgrow hbase (fun k hk => own_block hown hk))
/-- No text lies at a row's head. -/
def NoText (w : World) (g : Nat) : Prop := ∀ s, w.cell? ⟨g, 0, none⟩ ≠ some (.string s)
theorem _root_.Go.Proofs.YthadfdbkkmmgoaaGreatDoor.Ch.grown {Ad : Nat → Addr} {n₀ k g : Nat} {W W' : World} (hg : W.grownBy W' (some g)) (hn : n₀ ≤ W.heap.size) (hr : NoText W g) : ∀ {us : List ByteArray} {v : Value}, Ch Ad n₀ W k us v → Ch Ad n₀ W' k us v
  | [], _, h => h
  | s :: us, _, ⟨b, inner, hv, hb, c0, c1, hi⟩ => by
    have hne : b ≠ g := fun e => hr s (by rw [← e]; exact c0)
    have hbl := hg.block b (by omega) (fun e => hne (by simpa using e))
    exact ⟨b, inner, hv, hb, (World.cell?_of_block (w := W) (a := ⟨b, 0, none⟩) hbl).trans c0, (World.cell?_of_block (w := W) (a := ⟨b, 1, none⟩) hbl).trans c1, Ch.grown hg hn hr hi⟩
/-- One error of a row: none, or one leaf. -/
def One (Ad : Nat → Addr) (n₀ : Nat) (W : World) (v : Value) (ls : List (List ByteArray × Nat)) : Prop := (v = .nilIface ∧ ls = []) ∨ ∃ p, ls = [p] ∧ Chn Ad n₀ W 3 v p
theorem One.top {Ad : Nat → Addr} {n₀ : Nat} {W : World} {v : Value} {ls : List (List ByteArray × Nat)} (h : One Ad n₀ W v ls) : Top Ad n₀ W 3 v ls := by
  rcases h with ⟨rfl, rfl⟩ | ⟨p, rfl, h⟩
  · exact .empty
  · exact .one _ _ h
theorem One.move {Ad : Nat → Addr} {n₀ n₁ : Nat} {W W' : World} {v : Value} {ls : List (List ByteArray × Nat)} (h : One Ad n₀ W v ls) (hb : Below n₀ W W') (hn : n₀ ≤ n₁) : One Ad n₁ W' v ls := by
  rcases h with h | ⟨p, h1, h2⟩
  · exact .inl h
  · exact .inr ⟨p, h1, h2.move hb hn⟩
theorem One.grown {Ad : Nat → Addr} {n₀ g : Nat} {W W' : World} {v : Value} {ls : List (List ByteArray × Nat)} (h : One Ad n₀ W v ls) (hg : W.grownBy W' (some g)) (hn : n₀ ≤ W.heap.size) (hr : NoText W g) : One Ad W'.heap.size W' v ls := by
  rcases h with h | ⟨p, h1, h2⟩
  · exact .inl h
  · exact .inr ⟨p, h1, ((h2.1.grown hg hn hr).wider (Nat.le_trans hn hg.size)), h2.2⟩
theorem One.cell {Ad : Nat → Addr} {n₀ : Nat} {W : World} {v : Value} {ls : List (List ByteArray × Nat)} (h : One Ad n₀ W v ls) : v.oneCell' = true ∧ ∀ s, v ≠ .string s := by
  rcases h with ⟨rfl, -⟩ | ⟨p, -, h⟩
  · exact ⟨rfl, by simp⟩
  · obtain ⟨t, q, rfl, -⟩ := h.1.shape
    exact ⟨rfl, by simp⟩
theorem _root_.Go.Proofs.YthadfdbkkmmgoaaGreatDoor.Top.single {Ad : Nat → Addr} {n₀ : Nat} {W : World} {v : Value} {ls : List (List ByteArray × Nat)} (h : Top Ad n₀ W 3 v ls) (hl : ls.length ≤ 1) : One Ad n₀ W v ls := by
  cases h using Top.ways with
  | empty => exact .inl ⟨rfl, rfl⟩
  | one v p h => exact .inr ⟨p, rfl, h⟩
  | many b vs h => have := h.two; simp at hl; omega
theorem own_more {w w' : World} {B n z : Nat} {e : TypeId} {v : Value} {xs : List Value} (h : w.ownsRow B e z v n xs) (hb : Below w.heap.size w w') : w'.ownsRow B e z v n xs := by
  refine ⟨h.1, ?_⟩
  rcases h.2 with h1 | ⟨g, cap, cur, h1, h2, h3, h4⟩
  · exact .inl h1
  · exact .inr ⟨g, cap, cur, h1, h2, (hb.block g (Array.getElem?_eq_some_iff.1 h3).1).trans h3, h4⟩
theorem Below.seen {B : Nat} {w w' : World} {p : Addr} {v : Value} (hb : Below B w w') (hB : w.heap.size ≤ B) (h : w.cell? p = some v) : w'.cell? p = some v :=
  (hb.cell (p := p) (Nat.lt_of_lt_of_le (World.block_lt_of_cell? w p h) hB)).trans h
end Go.Proofs.YthadfdbkkmmgoaaGreatDoor.Sc
namespace Go.Proofs.YthadfdbkkmmgoaaGreatDoor.Sc
open Go.RowKit Go.Shelf
/-- A letter from a to z. -/
def lowB (c : UInt8) : Bool := 97 ≤ c && c ≤ 122
/-- A name. -/
def isNm (s : ByteArray) : Bool := decide (1 ≤ s.size) && decide (s.size ≤ 8) && s.data.toList.all lowB
theorem isNm_none (s : ByteArray) (h : s.size = 0) : isNm s = false := by simp [isNm, h]
theorem isNm_long (s : ByteArray) (h : 8 < s.size) : isNm s = false := by simp [isNm]; omega
theorem take_snoc (s : ByteArray) (k : Nat) (h : k < s.size) : s.data.toList.take (k + 1) = s.data.toList.take k ++ [s[k]] := by
  rw [List.take_succ_eq_append_getElem (by simpa using h)]; rfl
theorem low_iff (c : UInt8) : lowB c = decide (97 ≤ (c.toNat : Int) ∧ (c.toNat : Int) ≤ 122) := by
  unfold lowB
  rw [Bool.eq_iff_iff]; simp [UInt8.le_iff_toNat_le]; omega
theorem isNm_bad (s : ByteArray) (k : Nat) (h : k < s.size) (hb : lowB s[k] = false) : isNm s = false := by
  have : s.data.toList.all lowB = false := List.all_eq_false.2 ⟨s[k], Array.getElem_mem_toList h, by rw [hb]; exact Bool.false_ne_true⟩
  unfold isNm
  rw [this]; simp
theorem isNm_all (s : ByteArray) (h1 : 1 ≤ s.size) (h2 : s.size ≤ 8) (h : (s.data.toList.take s.size).all lowB = true) : isNm s = true := by
  have e : s.data.toList.take s.size = s.data.toList := List.take_of_length_le (by rw [Array.length_toList]; exact Nat.le_refl _)
  rw [e] at h
  unfold isNm
  rw [h]
  simp only [Bool.and_true, Bool.and_eq_true, decide_eq_true_eq]
  exact ⟨h1, h2⟩
theorem all_next (s : ByteArray) (k : Nat) (h : k < s.size) : (s.data.toList.take (k + 1)).all lowB = ((s.data.toList.take k).all lowB && lowB s[k]) := by
  rw [take_snoc s k h, List.all_append]; simp
set_option maxHeartbeats 800000 in
set_option maxRecDepth 100000 in
theorem refname_small (s : ByteArray) (w : World) (hs : s.size ≤ 1000) : Calls Tryz.prog 43 #[.string s] w fun e w' => e = .returned (.bool (isNm s)) ∧ w' = w := by
  have hsi : (s.size : Int) ≤ 1000 := by omega
  by_cases h0 : s.size = 0
  · have R := hid (isNm_none s h0)
    have q : (s.size : Int) < 1 := by omega
    clear h0
    go_enter Tryz.func43, Tryz.ntmps43
    go_wp2
    go_ret
    exact ⟨by rw [R.out]; rfl, rfl⟩
  · by_cases h8 : 8 < s.size
    · have R := hid (isNm_long s h8)
      have q : ¬ ((s.size : Int) < 1) := by omega
      have q8 : (8 : Int) < (s.size : Int) := by omega
      clear h0
      go_enter Tryz.func43, Tryz.ntmps43
      go_wp2
      go_ret
      exact ⟨by rw [R.out]; rfl, rfl⟩
    · have q : ¬ ((s.size : Int) < 1) := by omega
      have q8 : ¬ ((8 : Int) < (s.size : Int)) := by omega
      go_enter Tryz.func43, Tryz.ntmps43
      go_wp2
      go_loop [3] (fun i => ∃ k : Nat, k ≤ s.size ∧ i = .int .i64 (k : Int) ∧ Hid ((s.data.toList.take k).all lowB = true)) (fun i => s.size - (intOf i).toNat)
      case atStart => exact ⟨0, Nat.zero_le _, rfl, rfl⟩
      case round =>
        obtain ⟨k, hk, rfl, HA⟩ := hrel
        by_cases hlt : k < s.size
        · have AN := hid (all_next s k hlt)
          have LI := low_iff s[k]
          by_cases hb : lowB s[k] = true
          · have hb' : 97 ≤ (s[k].toNat : Int) ∧ (s[k].toNat : Int) ≤ 122 := by rw [LI] at hb; simpa using hb
            obtain ⟨hb1, hb2⟩ := hb'
            have R : Hid ((s.data.toList.take (k + 1)).all lowB = true) := by show _ = _; rw [AN.out, HA.out, hb]; rfl
            clear LI hb
            go_wp2
            go_round
            case rel => exact ⟨k + 1, by omega, by go_num, R.out⟩
            case measure => simp [intOf]; omega
          · have hbf : lowB s[k] = false := by simpa using hb
            have R := hid (isNm_bad s k hlt hbf)
            have hb' : ¬ (97 ≤ (s[k].toNat : Int) ∧ (s[k].toNat : Int) ≤ 122) := by rw [LI] at hb; simpa using hb
            clear LI hb hbf
            by_cases hc : (s[k].toNat : Int) < 97
            · go_wp2
              go_ret
              exact ⟨by rw [R.out]; rfl, rfl⟩
            · have hd : (122 : Int) < (s[k].toNat : Int) := by omega
              go_wp2
              go_ret
              exact ⟨by rw [R.out]; rfl, rfl⟩
        · have R : Hid (isNm s = true) := isNm_all s (by omega) (by omega) (by rw [← HA.out, show k = s.size by omega])
          go_wp2
          go_ret
          exact ⟨by rw [R.out]; rfl, rfl⟩
theorem bytes_cell (w : World) (s : ByteArray) (cap e : Nat) (fr : Nat × Nat) (k : Nat) (hk : k < s.size) : (w.drew.alloc (.cells (bytesRow s cap) e fr)).cell? ⟨w.heap.size, k, none⟩ = some (.int .u8 (s[k].toNat : Int)) := by
  have h : (w.drew.alloc (.cells (bytesRow s cap) e fr)).heap[w.heap.size]? = some (.cells (bytesRow s cap) e fr) := heap_alloc_new w.drew _
  rw [cell_of_row _ _ k _ e fr h]
  exact bytesRow_at s cap k hk
set_option maxHeartbeats 800000 in
set_option maxRecDepth 100000 in
theorem isname_small (s : ByteArray) (w : World) (hs : s.size ≤ 1000) : Calls Tryz.prog 128 #[.string s] w fun e w' => e = .returned (.bool (isNm s)) ∧ Below w.heap.size w w' := by
  have hsi : (s.size : Int) ≤ 1000 := by omega
  by_cases h0 : s.toList = []
  · have R : Hid (isNm s = false) := isNm_none s (by rw [Lib.size_eq, ← Lib.toList_data, h0]; rfl)
    go_enter Tryz.func128, Tryz.ntmps128
    go_wp2_with fail
    go_ret
    exact ⟨by rw [R.out]; rfl, Below.refl _ _⟩
  · have h1 : 1 ≤ s.size := by
      rcases Nat.eq_zero_or_pos s.size with h | h
      · exfalso; apply h0; apply List.eq_nil_of_length_eq_zero; rw [Lib.toList_data, ← Lib.size_eq]; exact h
      · exact h
    have hie : s.toList.isEmpty = false := by simpa using h0
    by_cases h8 : 8 < s.size
    · have q8 : (8 : Int) < (s.size : Int) := by omega
      have R := hid (isNm_long s h8)
      go_enter Tryz.func128, Tryz.ntmps128
      go_wp2_with fail
      go_ret
      exact ⟨by rw [R.out]; rfl, Below.refl _ _⟩
    · have q8 : ¬ ((8 : Int) < (s.size : Int)) := by omega
      have hcv := run_bytes_of_string (P := Tryz.prog) w 9 277 5 s Tryz.underlying9 Tryz.underlying277 Tryz.underlying5
      have BC := hid (bytes_cell w s (grownCap w s.size 0 5) 5 ((bytesRow s (grownCap w s.size 0 5)).size, (bytesRow s (grownCap w s.size 0 5)).size + 1))
      have BB : Hid (Below w.heap.size w (w.drew.alloc (.cells (bytesRow s (grownCap w s.size 0 5)) 5 ((bytesRow s (grownCap w s.size 0 5)).size, (bytesRow s (grownCap w s.size 0 5)).size + 1)))) := (Below.refl _ _).drew.alloc (Nat.le_refl _) _
      generalize w.drew.alloc (.cells (bytesRow s (grownCap w s.size 0 5)) 5 ((bytesRow s (grownCap w s.size 0 5)).size, (bytesRow s (grownCap w s.size 0 5)).size + 1)) = w2 at *
      generalize grownCap w s.size 0 5 = cap at *
      go_enter Tryz.func128, Tryz.ntmps128
      go_wp2_with fail
      go_loop [4, 15] (fun _ i => ∃ k : Nat, k ≤ s.size ∧ i = .int .i64 (k : Int) ∧ Hid ((s.data.toList.take k).all lowB = true)) (fun _ i => s.size - (intOf i).toNat)
      case atStart => exact ⟨0, Nat.zero_le _, rfl, rfl⟩
      case round =>
        obtain ⟨k, hk, rfl, HA⟩ := hrel
        by_cases hlt : k < s.size
        · have AN := hid (all_next s k hlt)
          have LI := low_iff s[k]
          have hki : (k : Int) < (s.size : Int) := by omega
          have hc := BC.out k hlt
          by_cases hb : lowB s[k] = true
          · have hb' : 97 ≤ (s[k].toNat : Int) ∧ (s[k].toNat : Int) ≤ 122 := by rw [LI] at hb; simpa using hb
            have R : Hid ((s.data.toList.take (k + 1)).all lowB = true) := by show _ = _; rw [AN.out, HA.out, hb]; rfl
            clear LI hb AN
            generalize (s[k].toNat : Int) = x at *
            obtain ⟨hb1, hb2⟩ := hb'
            go_wp2_with fail
            go_round
            case rel => exact ⟨k + 1, by omega, by go_num, R.out⟩
            case measure => simp [intOf]; omega
          · have hbf : lowB s[k] = false := by simpa using hb
            have R := hid (isNm_bad s k hlt hbf)
            have hb' : ¬ (97 ≤ (s[k].toNat : Int) ∧ (s[k].toNat : Int) ≤ 122) := by rw [LI] at hb; simpa using hb
            clear LI hb hbf AN
            generalize (s[k].toNat : Int) = x at *
            by_cases hc : x < 97
            · go_wp2_with fail
              go_ret
              exact ⟨by rw [R.out]; rfl, BB.out⟩
            · have hd : (122 : Int) < x := by omega
              go_wp2_with fail
              go_ret
              exact ⟨by rw [R.out]; rfl, BB.out⟩
        · have R : Hid (isNm s = true) := isNm_all s (by omega) (by omega) (by rw [← HA.out, show k = s.size by omega])
          have hki : ¬ ((k : Int) < (s.size : Int)) := by omega
          go_wp2_with fail
          go_ret
          exact ⟨by rw [R.out]; rfl, BB.out⟩
set_option maxHeartbeats 800000 in
set_option maxRecDepth 100000 in
theorem refname_any (s : ByteArray) (w : World) : Calls Tryz.prog 43 #[.string s] w fun e w' => e = .returned (.bool (isNm s)) ∧ w' = w := by
  by_cases h8 : 8 < s.size
  · have R := hid (isNm_long s h8)
    have q : ¬ ((s.size : Int) < 1) := by omega
    have q8 : (8 : Int) < (s.size : Int) := by omega
    go_enter Tryz.func43, Tryz.ntmps43
    go_wp2
    go_ret
    exact ⟨by rw [R.out]; rfl, rfl⟩
  · exact refname_small s w (by omega)
set_option maxHeartbeats 800000 in
set_option maxRecDepth 100000 in
theorem isname_any (s : ByteArray) (w : World) : Calls Tryz.prog 128 #[.string s] w fun e w' => e = .returned (.bool (isNm s)) ∧ Below w.heap.size w w' := by
  by_cases h8 : 8 < s.size
  · have h0 : ¬ s.toList = [] := fun h => by
      have : s.size = 0 := by rw [Lib.size_eq, ← Lib.toList_data, h]; rfl
      omega
    have hie : s.toList.isEmpty = false := by simpa using h0
    have q8 : (8 : Int) < (s.size : Int) := by omega
    have R := hid (isNm_long s h8)
    go_enter Tryz.func128, Tryz.ntmps128
    go_wp2_with fail
    go_ret
    exact ⟨by rw [R.out]; rfl, Below.refl _ _⟩
  · exact isname_small s w (by omega)
end Go.Proofs.YthadfdbkkmmgoaaGreatDoor.Sc
namespace Go.Proofs.YthadfdbkkmmgoaaGreatDoor.Sc
open Go.RowKit Go.Shelf Go.Maps
theorem keyed9 : Keyed Tryz.prog 9 := string_keyed Tryz.underlying9
theorem zero95 (w : World) : (zeroValue 230).run Tryz.prog w = .ok (.agg #[]) w := by kernel_rfl
def litS (s : ByteArray) : Lit := .string s.data.toList
/-- A set of names. -/
def SetN (acc : List ByteArray) : DataW Unit := Maps.setOf (.agg []) (acc.map litS)
theorem litS_key (acc : List ByteArray) : ∀ x ∈ acc.map litS, WideAt.IsKeyLit x := by
  intro x hx
  obtain ⟨s, -, rfl⟩ := List.mem_map.1 hx
  exact trivial
/-- Whether a name is among others. -/
def memB (acc : List ByteArray) (s : ByteArray) : Bool := acc.any fun x => x.data.toList == s.data.toList
theorem memB_iff (acc : List ByteArray) (s : ByteArray) : memB acc s = true ↔ s ∈ acc := by
  unfold memB
  rw [List.any_eq_true]
  constructor
  · rintro ⟨x, hx, h⟩
    have : x = s := ByteArray.ext (Array.toList_inj.1 (by simpa using h))
    exact this ▸ hx
  · intro h
    exact ⟨s, h, by simp⟩
theorem has_SetN (acc : List ByteArray) (s : ByteArray) : Maps.has (SetN acc) (litS s) = memB acc s := by
  unfold SetN memB
  rw [Maps.has_setOf _ _ _ (litS_key acc), List.any_map]
  rfl
theorem SetN_snoc (acc : List ByteArray) (s : ByteArray) : SetN (acc ++ [s]) = (SetN acc).put (litS s) (.agg []) := by
  unfold SetN
  rw [List.map_append]
  exact Maps.setOf_snoc _ _ _
def MapN (W : World) (mb n : Nat) (acc : List ByteArray) : Prop := W.ownsMap Tryz.prog 9 (unitElem (H := Unit)) mb n (SetN acc)
/-- What is wrong with a name, where others are taken. -/
def nErr (acc : List ByteArray) (s : ByteArray) : List Nat := if isNm s then (if memB acc s then [9] else []) else [10]
def seenB (acc : List ByteArray) (s : ByteArray) : List ByteArray := if isNm s && !memB acc s then acc ++ [s] else acc
/-- The error of numbers of which there is one at most. -/
def errV (Ad : Nat → Addr) : List Nat → Value
  | [] => .nilIface
  | k :: _ => .iface 330 (.pointer (some (Ad k)))
theorem grown_of_below {W W' : World} (h : Below W.heap.size W W') (row : Option Nat) : W.grownBy W' row := ⟨h.os, h.tape, h.output, h.size, fun k hk _ => h.block k hk⟩
theorem MapN.later {W W' : World} {mb n : Nat} {acc : List ByteArray} (h : MapN W mb n acc) (hb : Below W.heap.size W W') : MapN W' mb n acc := World.ownsMap.kept h (grown_of_below hb none) (by simp)
set_option maxHeartbeats 800000 in
theorem take_small (Ad : Nat → Addr) (W : World) (hE : Env8 W Ad) (mb n : Nat) (acc : List ByteArray) (hm : MapN W mb n acc) (hn : n ≤ 1000) (s : ByteArray) (hs : s.size ≤ 1000) :
    Calls Tryz.prog 82 #[.map (some mb), .string s] W fun e W' => e = .returned (errV Ad (nErr acc s)) ∧ MapN W' mb (n + 1) (seenB acc s) ∧ W.grownBy W' (some mb) := by
  have IC := hid (isname_any s W)
  have HM := hid hm
  have HE := hid hE
  have hkey : keyOf Tryz.prog 9 (.string s) = some (litS s) := WideMaps.keyOf_string_mk Tryz.underlying9 (by unfold maxLen; omega)
  have HK := hid hkey
  clear hm hE hkey
  by_cases hi : isNm s = true
  · rw [hi] at IC
    go_enter Tryz.func82, Tryz.ntmps82
    go_wp2_with fail
    refine IC.out.mono ?_
    rintro e w1 ⟨rfl, hb1⟩
    have B1 := hid hb1
    have M1 := hid (HM.out.later hb1)
    have e9 : w1.cell? ⟨6, 0, none⟩ = some (.iface 330 (.pointer (some (Ad 9)))) := (HE.out.later hb1).cell 9 (by decide) (by decide)
    clear hb1 IC
    by_cases hmem : memB acc s = true
    · have R : Hid (errV Ad (nErr acc s) = .iface 330 (.pointer (some (Ad 9)))) := by show _ = _; simp [nErr, hi, hmem, errV]
      have R2 : Hid (seenB acc s = acc) := by show _ = _; simp [seenB, hmem]
      have hh : Maps.has (SetN acc) (litS s) = true := by rw [has_SetN]; exact hmem
      have h3 : 6 < w1.heap.size := World.block_lt_of_cell? w1 _ e9
      have h3n : ¬ (6 = w1.heap.size) := by omega
      clear hmem hi
      go_wp2_with (at_lookup; refine wpList_lookup_own_unit _ rfl _ _ 152 rfl 9 230 keyed9 Tryz.underlying152 (zero95 _) mb n (SetN acc) rfl M1.out _ _ rfl HK.out ?_; rw [hh])
      go_ret
      refine ⟨by rw [R.out]; rfl, ?_, ?_⟩
      · rw [R2.out]
        exact (World.ownsMap.alloc M1.out _).mono (Nat.le_succ _)
      · exact (grown_of_below B1.out _).trans (World.grownBy_alloc _ _ _)
    · have hmf : memB acc s = false := by simpa using hmem
      have R : Hid (errV Ad (nErr acc s) = .nilIface) := by show _ = _; simp [nErr, hi, hmf, errV]
      have R2 : Hid (seenB acc s = acc ++ [s]) := by show _ = _; simp [seenB, hi, hmf]
      have hh : Maps.has (SetN acc) (litS s) = false := by rw [has_SetN]; exact hmf
      have MA := hid (World.ownsMap.alloc M1.out (.cells #[] 230))
      clear hmem hi hmf e9
      go_wp2_with (first | (at_lookup; refine wpList_lookup_own_unit _ rfl _ _ 152 rfl 9 230 keyed9 Tryz.underlying152 (zero95 _) mb n (SetN acc) rfl M1.out _ _ rfl HK.out ?_; rw [hh]) | (at_mapUpdate; refine wpList_mapUpdate_own _ rfl _ _ _ 152 rfl 9 230 keyed9 Tryz.underlying152 (unitElem (H := Unit)) mb n (SetN acc) rfl MA.out (by unfold maxLen; omega) _ _ _ rfl rfl HK.out (.agg []) [] unitElem_mk ?_; intro w2 hown2 hg2))
      go_ret
      refine ⟨by rw [R.out]; rfl, ?_, ?_⟩
      · rw [R2.out]
        show World.ownsMap _ _ _ _ _ _ _
        rw [SetN_snoc]
        exact hown2
      · exact ((grown_of_below B1.out _).trans (World.grownBy_alloc _ _ _)).trans hg2
  · have hif : isNm s = false := by simpa using hi
    rw [hif] at IC
    have R : Hid (errV Ad (nErr acc s) = .iface 330 (.pointer (some (Ad 10)))) := by show _ = _; simp [nErr, hif, errV]
    have R2 : Hid (seenB acc s = acc) := by show _ = _; simp [seenB, hif]
    clear hi hif
    go_enter Tryz.func82, Tryz.ntmps82
    go_wp2_with fail
    refine IC.out.mono ?_
    rintro e w1 ⟨rfl, hb1⟩
    have B1 := hid hb1
    have M1 := hid (HM.out.later hb1)
    have e10 : w1.cell? ⟨5, 0, none⟩ = some (.iface 330 (.pointer (some (Ad 10)))) := (HE.out.later hb1).cell 10 (by decide) (by decide)
    clear hb1 IC
    go_wp2_with fail
    go_ret
    exact ⟨by rw [R.out]; rfl, by rw [R2.out]; exact M1.out.mono (Nat.le_succ _), grown_of_below B1.out _⟩
set_option maxHeartbeats 800000 in
theorem take_any (Ad : Nat → Addr) (W : World) (hE : Env8 W Ad) (mb n : Nat) (acc : List ByteArray) (hm : MapN W mb n acc) (hn : n ≤ 1000) (s : ByteArray) :
    Calls Tryz.prog 82 #[.map (some mb), .string s] W fun e W' => e = .returned (errV Ad (nErr acc s)) ∧ MapN W' mb (n + 1) (seenB acc s) ∧ W.grownBy W' (some mb) := by
  by_cases h8 : 8 < s.size
  · have IC := hid (isname_any s W)
    have HM := hid hm
    have HE := hid hE
    have hif : isNm s = false := isNm_long s h8
    rw [hif] at IC
    have R : Hid (errV Ad (nErr acc s) = .iface 330 (.pointer (some (Ad 10)))) := by show _ = _; simp [nErr, hif, errV]
    have R2 : Hid (seenB acc s = acc) := by show _ = _; simp [seenB, hif]
    clear hif hm hE h8
    go_enter Tryz.func82, Tryz.ntmps82
    go_wp2_with fail
    refine IC.out.mono ?_
    rintro e w1 ⟨rfl, hb1⟩
    have B1 := hid hb1
    have M1 := hid (HM.out.later hb1)
    have e10 : w1.cell? ⟨5, 0, none⟩ = some (.iface 330 (.pointer (some (Ad 10)))) := (HE.out.later hb1).cell 10 (by decide) (by decide)
    clear hb1 IC
    go_wp2_with fail
    go_ret
    exact ⟨by rw [R.out]; rfl, by rw [R2.out]; exact M1.out.mono (Nat.le_succ _), grown_of_below B1.out _⟩
  · exact take_small Ad W hE mb n acc hm hn s (by omega)
end Go.Proofs.YthadfdbkkmmgoaaGreatDoor.Sc
namespace Go.Proofs.YthadfdbkkmmgoaaGreatDoor.Sc
open Go.RowKit Go.Shelf
/-- A number's digits. -/
def dig (i : Nat) : ByteArray := ⟨(Lib.decDigits i).toArray⟩
theorem itoa_any (i : Nat) (hi : i < 100) (w : World) : Calls Tryz.prog 127 #[.int .i64 (i : Int)] w fun e w' => e = .returned (.string (dig i)) ∧ w' = w := Tryz.strconv_Itoa_small i hi w
theorem sent_chn (Ad : Nat → Addr) (n₀ k : Nat) (W : World) (hk : 1 ≤ k ∧ k ≤ 18) : Chn Ad n₀ W 0 (.iface 330 (.pointer (some (Ad k)))) ([], k) := ⟨rfl, hk.1, hk.2, Nat.le_refl _⟩
set_option maxHeartbeats 800000 in
theorem wayat_any (Ad : Nat → Addr) (W : World) (l p : ByteArray) (i : Nat) (hi : i < 100) (ns : List Nat) (hl : ns.length ≤ 1) (hn : ∀ k ∈ ns, 1 ≤ k ∧ k ≤ 18) :
    Calls Tryz.prog 81 #[.string l, .int .i64 (i : Int), .string p, errV Ad ns] W fun e W' => ∃ v', e = .returned v' ∧ One Ad W'.heap.size W' v' (ns.map fun k => ([l, dig i, p], k)) ∧ Below W.heap.size W W' := by
  have IT := hid (itoa_any i hi W)
  match ns, hl, hn with
  | [], _, _ =>
    have A0 := hid (at_nil p W)
    have A1 := hid (at_nil (dig i) W)
    have A2 := hid (at_nil l W)
    unfold errV
    go_enter Tryz.func81, Tryz.ntmps81
    go_wp2_with fail
    refine IT.out.mono ?_
    rintro e w1 ⟨rfl, rfl⟩
    go_wp2_with fail
    refine A0.out.mono ?_
    rintro e w2 ⟨rfl, rfl⟩
    go_wp2_with fail
    refine A1.out.mono ?_
    rintro e w3 ⟨rfl, rfl⟩
    go_wp2_with fail
    refine A2.out.mono ?_
    rintro e w4 ⟨rfl, rfl⟩
    go_wp2_with fail
    go_ret
    exact ⟨_, rfl, .inl ⟨rfl, rfl⟩, Below.refl _ _⟩
  | [k], _, hn =>
    have hk := hn k (by simp)
    have A0 := hid (at_chain Ad p 0 _ _ W (sent_chn Ad W.heap.size k W hk))
    clear hn hk
    unfold errV
    go_enter Tryz.func81, Tryz.ntmps81
    go_wp2_with fail
    refine IT.out.mono ?_
    rintro e w1 ⟨rfl, rfl⟩
    go_wp2_with fail
    refine A0.out.mono ?_
    rintro e w2 ⟨v2, rfl, h2, b2⟩
    have A1 := hid (at_chain Ad (dig i) _ _ _ w2 h2)
    have B2 := hid b2
    clear h2 b2 A0
    go_wp2_with fail
    refine A1.out.mono ?_
    rintro e w3 ⟨v3, rfl, h3, b3⟩
    have A2 := hid (at_chain Ad l _ _ _ w3 h3)
    have B3 := hid (B2.out.trans (b3.mono B2.out.size))
    clear h3 b3 A1 B2
    go_wp2_with fail
    refine A2.out.mono ?_
    rintro e w4 ⟨v4, rfl, h4, b4⟩
    have H4 := hid h4
    have B4 := hid (B3.out.trans (b4.mono B3.out.size))
    clear h4 b4 A2 B3
    go_wp2_with fail
    go_ret
    exact ⟨_, rfl, .inr ⟨_, rfl, H4.out⟩, B4.out⟩
  | _ :: _ :: _, h, _ => simp at h
set_option maxHeartbeats 800000 in
theorem toomany_any (Ad : Nat → Addr) (W : World) (hE : Env8 W Ad) (l : ByteArray) (n m : Int) :
    Calls Tryz.prog 80 #[.string l, .int .i64 n, .int .i64 m] W fun e W' => ∃ v', e = .returned v' ∧ One Ad W'.heap.size W' v' (if m < n then [([l], 4)] else []) ∧ Below W.heap.size W W' := by
  have e4 : W.cell? ⟨4, 0, none⟩ = some (.iface 330 (.pointer (some (Ad 4)))) := hE.cell 4 (by decide) (by decide)
  clear hE
  by_cases h : m < n
  · have A0 := hid (at_chain Ad l 0 _ _ W (sent_chn Ad W.heap.size 4 W (by decide)))
    rw [if_pos h]
    go_enter Tryz.func80, Tryz.ntmps80
    go_wp2_with fail
    refine A0.out.mono ?_
    rintro e w2 ⟨v2, rfl, h2, b2⟩
    have H2 := hid h2
    have B2 := hid b2
    clear h2 b2
    go_wp2_with fail
    go_ret
    exact ⟨_, rfl, .inr ⟨_, rfl, ⟨H2.out.1, H2.out.2.1, H2.out.2.2.1, by simp⟩⟩, B2.out⟩
  · rw [if_neg h]
    go_enter Tryz.func80, Tryz.ntmps80
    go_wp2_with fail
    go_ret
    exact ⟨_, rfl, .inl ⟨rfl, rfl⟩, Below.refl _ _⟩
/-- A component. -/
structure Cmp where
  s : ByteArray
  wd : Int
  rb : Bool
  d0 : Int
  d1 : Int
  d2 : Int
  d3 : Int
def Cmp.val (c : Cmp) : Value := .agg #[.string c.s, .int .i64 c.wd, .bool c.rb, .int .i64 c.d0, .int .i64 c.d1, .int .i64 c.d2, .int .i64 c.d3]
def wOk (c : Cmp) : Bool := decide (1 ≤ c.wd) && decide (c.wd ≤ 4)
theorem wOk_no (c : Cmp) (h : ¬ (1 ≤ c.wd ∧ c.wd ≤ 4)) : wOk c = false := by
  unfold wOk
  by_cases h1 : 1 ≤ c.wd
  · have h2 : ¬ c.wd ≤ 4 := fun h2 => h ⟨h1, h2⟩
    simp [h2]
  · simp [h1]
theorem wOk_yes (c : Cmp) (h : 1 ≤ c.wd ∧ c.wd ≤ 4) : wOk c = true := by
  unfold wOk
  simp [h.1, h.2]
set_option maxHeartbeats 800000 in
theorem fits_any (W : World) (c : Cmp) : Calls Tryz.prog 129 #[c.val] W fun e W' => e = .returned (.bool (wOk c)) ∧ Below W.heap.size W W' := by
  by_cases h : 1 ≤ c.wd ∧ c.wd ≤ 4
  · rw [wOk_yes c h]
    obtain ⟨s, wd, rb, d0, d1, d2, d3⟩ := c
    obtain ⟨h1, h2⟩ := h
    simp only [] at h1 h2
    unfold Cmp.val
    go_enter Tryz.func129, Tryz.ntmps129
    go_wp2_with fail
    go_ret
    exact ⟨rfl, (Below.refl _ _).alloc (Nat.le_refl _) _⟩
  · rw [wOk_no c h]
    obtain ⟨s, wd, rb, d0, d1, d2, d3⟩ := c
    simp only [] at h
    unfold Cmp.val
    by_cases h1 : 1 ≤ wd
    · have h2 : ¬ wd ≤ 4 := fun h2 => h ⟨h1, h2⟩
      clear h
      go_enter Tryz.func129, Tryz.ntmps129
      go_wp2_with fail
      go_ret
      exact ⟨rfl, (Below.refl _ _).alloc (Nat.le_refl _) _⟩
    · clear h
      go_enter Tryz.func129, Tryz.ntmps129
      go_wp2_with fail
      go_ret
      exact ⟨rfl, (Below.refl _ _).alloc (Nat.le_refl _) _⟩
def wErr (c : Cmp) : List Nat := if wOk c then [] else [1]
set_option maxHeartbeats 800000 in
theorem width_any (Ad : Nat → Addr) (W : World) (hE : Env8 W Ad) (c : Cmp) : Calls Tryz.prog 83 #[c.val] W fun e W' => e = .returned (errV Ad (wErr c)) ∧ Below W.heap.size W W' := by
  have HE := hid hE
  clear hE
  have FC := hid (fun W' => fits_any W' c)
  cases hw : wOk c with
  | true =>
    rw [show errV Ad (wErr c) = .nilIface by simp [wErr, hw, errV]]
    rw [hw] at FC
    clear hw
    obtain ⟨s, wd, rb, d0, d1, d2, d3⟩ := c
    unfold Cmp.val at FC ⊢
    have BA : Hid (Below W.heap.size W (W.alloc (.cells #[.string s, .int .i64 wd, .bool rb, .int .i64 d0, .int .i64 d1, .int .i64 d2, .int .i64 d3] 96))) := (Below.refl _ _).alloc (Nat.le_refl _) _
    go_enter Tryz.func83, Tryz.ntmps83
    go_wp2_with fail
    refine (FC.out _).mono ?_
    rintro e w1 ⟨rfl, hb1⟩
    have B1 := hid (BA.out.trans (hb1.mono BA.out.size))
    clear hb1 FC
    go_wp2_with fail
    go_ret
    exact ⟨rfl, B1.out⟩
  | false =>
    rw [show errV Ad (wErr c) = .iface 330 (.pointer (some (Ad 1))) by simp [wErr, hw, errV]]
    rw [hw] at FC
    clear hw
    obtain ⟨s, wd, rb, d0, d1, d2, d3⟩ := c
    unfold Cmp.val at FC ⊢
    have BA : Hid (Below W.heap.size W (W.alloc (.cells #[.string s, .int .i64 wd, .bool rb, .int .i64 d0, .int .i64 d1, .int .i64 d2, .int .i64 d3] 96))) := (Below.refl _ _).alloc (Nat.le_refl _) _
    go_enter Tryz.func83, Tryz.ntmps83
    go_wp2_with fail
    refine (FC.out _).mono ?_
    rintro e w1 ⟨rfl, hb1⟩
    have B1 := hid (BA.out.trans (hb1.mono BA.out.size))
    have e1 : w1.cell? ⟨0, 0, none⟩ = some (.iface 330 (.pointer (some (Ad 1)))) := (HE.out.later B1.out).cell 1 (by decide) (by decide)
    clear hb1 FC
    go_wp2_with fail
    go_ret
    exact ⟨rfl, B1.out⟩
set_option maxHeartbeats 800000 in
theorem nz_any (n : Int) (W : World) : Calls Tryz.prog 131 #[.int .i64 n] W fun e W' => e = .returned (.bool (n != 0)) ∧ W' = W := by
  go_enter Tryz.func131, Tryz.ntmps131
  go_wp2_with fail
  go_ret
  exact ⟨rfl, rfl⟩
/-- Numbers in memory. -/
def IntRow (W : World) (v : Value) (ds : List Int) : Prop := ∃ a c, v = .slice a ds.length c ∧ (ds = [] ∨ ∃ b o, a = some ⟨b, o, none⟩ ∧ ∀ (j : Nat) x, ds[j]? = some x → W.cell? ⟨b, o + j, none⟩ = some (.int .i64 x))
def nzB (n : Int) : Bool := n != 0
set_option maxHeartbeats 800000 in
set_option maxRecDepth 100000 in
theorem idx_any (W : World) (v : Value) (ds : List Int) (h : IntRow W v ds) (hl : ds.length ≤ 1000) :
    Calls Tryz.prog 159 #[v, .func (.func 131) #[] #[]] W fun e W' => (∃ i : Int, e = .returned (.int .i64 i) ∧ decide (0 ≤ i) = ds.any nzB) ∧ W' = W := by
  obtain ⟨a, c, rfl, h1⟩ := h
  have H1 := hid h1
  have hli : (ds.length : Int) ≤ 1000 := by omega
  clear h1
  go_enter Tryz.func159, Tryz.ntmps159
  go_wp2_with fail
  go_loop [5, 8] (fun _ i => ∃ k : Nat, k ≤ ds.length ∧ i = .int .i64 (k : Int) ∧ Hid ((ds.take k).any nzB = false)) (fun _ i => ds.length - (intOf i).toNat)
  case atStart => exact ⟨0, Nat.zero_le _, rfl, rfl⟩
  case round =>
    obtain ⟨k, hk, rfl, HN⟩ := hrel
    by_cases hlt : k < ds.length
    · have hki : (k : Int) < (ds.length : Int) := by omega
      obtain ⟨x, hx⟩ := at_lt ds k hlt
      obtain ⟨b, o, rfl, hc⟩ : ∃ b o, a = some ⟨b, o, none⟩ ∧ ∀ (j : Nat) x, ds[j]? = some x → W.cell? ⟨b, o + j, none⟩ = some (.int .i64 x) := by
        rcases H1.out with h | h
        · rw [h] at hlt; simp at hlt
        · exact h
      have c0 := hc k x hx
      have HX := hid hx
      have TN := hid (take_next hx)
      have NZ := hid (nz_any x W)
      clear hc hx
      go_wp2_with fail
      refine NZ.out.mono ?_
      rintro e w1 ⟨rfl, rfl⟩
      by_cases hz : x = 0
      · have q : (x != 0) = false := by simp [hz]
        have R : Hid ((ds.take (k + 1)).any nzB = false) := by show _ = _; rw [TN.out, List.any_append, HN.out]; simp [nzB, hz]
        rw [q]
        clear q hz NZ
        go_wp2_with fail
        go_round
        case rel => exact ⟨k + 1, by omega, by go_num, R.out⟩
        case measure => simp [intOf]; omega
      · have q : (x != 0) = true := by simp [hz]
        have R : Hid (ds.any nzB = true) := List.any_eq_true.2 ⟨x, List.mem_of_getElem? HX.out, by simp [nzB, hz]⟩
        rw [q]
        clear q hz NZ
        go_wp2_with fail
        go_ret
        exact ⟨⟨(k : Int), rfl, by rw [R.out]; simp⟩, rfl⟩
    · have hki : ¬ ((k : Int) < (ds.length : Int)) := by omega
      have R : Hid (ds.any nzB = false) := by show _ = _; rw [← HN.out, List.take_of_length_le (by omega)]
      go_wp2_with fail
      go_ret
      exact ⟨⟨-1, rfl, by rw [R.out]; rfl⟩, rfl⟩
set_option maxHeartbeats 800000 in
theorem contains_any (W : World) (v : Value) (ds : List Int) (h : IntRow W v ds) (hl : ds.length ≤ 1000) :
    Calls Tryz.prog 130 #[v, .func (.func 131) #[] #[]] W fun e W' => e = .returned (.bool (ds.any nzB)) ∧ W' = W := by
  have IC := hid (idx_any W v ds h hl)
  obtain ⟨a, c, rfl, -⟩ := h
  go_enter Tryz.func130, Tryz.ntmps130
  go_wp2_with fail
  refine IC.out.mono ?_
  rintro e w1 ⟨⟨i, rfl, hi⟩, rfl⟩
  have HI := hid hi
  clear hi IC
  go_wp2_with fail
  go_ret
  exact ⟨by rw [← HI.out]; rfl, rfl⟩
/-- Whether a default is nothing behind its width. -/
def behind (c : Cmp) : List Int := [c.d0, c.d1, c.d2, c.d3].drop c.wd.toNat
def dErr (c : Cmp) : List Nat := if wOk c && (behind c).any nzB then [1] else []
set_option maxHeartbeats 1600000 in
theorem default_any (Ad : Nat → Addr) (W : World) (hE : Env8 W Ad) (c : Cmp) : Calls Tryz.prog 84 #[c.val] W fun e W' => e = .returned (errV Ad (dErr c)) ∧ Below W.heap.size W W' := by
  have HE := hid hE
  clear hE
  have FC := hid (fun W' => fits_any W' c)
  by_cases hw : 1 ≤ c.wd ∧ c.wd ≤ 4
  · have hwt := wOk_yes c hw
    rw [hwt] at FC
    have BA : Hid (Below W.heap.size W (W.alloc (.cells #[.string c.s, .int .i64 c.wd, .bool c.rb, .int .i64 c.d0, .int .i64 c.d1, .int .i64 c.d2, .int .i64 c.d3] 96))) := (Below.refl _ _).alloc (Nat.le_refl _) _
    have CC : Hid (∀ (W' : World) (v : Value), Below (W.heap.size + 1) (W.alloc (.cells #[.string c.s, .int .i64 c.wd, .bool c.rb, .int .i64 c.d0, .int .i64 c.d1, .int .i64 c.d2, .int .i64 c.d3] 96)) W' → (∃ a cc, v = .slice a (behind c).length cc ∧ ((behind c) = [] ∨ a = some ⟨W.heap.size, 3 + c.wd.toNat, none⟩)) →
        Calls Tryz.prog 130 #[v, .func (.func 131) #[] #[]] W' fun e W'' => e = .returned (.bool ((behind c).any nzB)) ∧ W'' = W') := by
      intro W' v hb ⟨a, cc, hv, ha⟩
      refine contains_any W' v (behind c) ⟨a, cc, hv, ha.imp id fun ha => ⟨W.heap.size, 3 + c.wd.toNat, ha, fun j x hx => ?_⟩⟩ (by simp [behind]; omega)
      unfold behind at hx
      rw [List.getElem?_drop] at hx
      rw [hb.cell (p := ⟨W.heap.size, 3 + c.wd.toNat + j, none⟩) (by simp), cell_of_row _ _ _ _ 96 (0, 0) (heap_alloc_new W _)]
      rw [show 3 + c.wd.toNat + j = 3 + (c.wd.toNat + j) by omega]
      generalize c.wd.toNat + j = m at *
      match m, hx with
      | 0, hx => simpa using hx
      | 1, hx => simpa using hx
      | 2, hx => simpa using hx
      | 3, hx => simpa using hx
      | m + 4, hx => simp at hx
    have hcase : c.wd = 1 ∨ c.wd = 2 ∨ c.wd = 3 ∨ c.wd = 4 := by omega
    cases ha : (behind c).any nzB with
    | false =>
      rw [show errV Ad (dErr c) = .nilIface by simp [dErr, hwt, ha, errV]]
      rw [ha] at CC
      clear hwt ha hw
      obtain ⟨s, wd, rb, d0, d1, d2, d3⟩ := c
      simp only [] at hcase
      unfold Cmp.val at FC ⊢
      rcases hcase with rfl | rfl | rfl | rfl
      all_goals
        go_enter Tryz.func84, Tryz.ntmps84
        go_wp2_with fail
        refine (FC.out _).mono ?_
        rintro e w1 ⟨rfl, hb1⟩
        have B1 := hid (BA.out.trans (hb1.mono BA.out.size))
        have hc1 : w1.cell? ⟨W.heap.size, 1, none⟩ = _ := (hb1.cell (p := ⟨W.heap.size, 1, none⟩) (by simp)).trans (by rw [cell_of_row _ _ _ _ 96 (0, 0) (heap_alloc_new W _)])
        have CD := hid (CC.out w1)
        have HB1 := hid hb1
        clear hb1 FC CC
        go_wp2_with fail
        refine (CD.out _ (by simpa using HB1.out) ⟨_, _, rfl, by first | exact .inr rfl | exact .inl rfl⟩).mono ?_
        rintro e w2 ⟨rfl, rfl⟩
        clear CD
        go_wp2_with fail
        go_ret
        exact ⟨rfl, B1.out⟩
    | true =>
      rw [show errV Ad (dErr c) = .iface 330 (.pointer (some (Ad 1))) by simp [dErr, hwt, ha, errV]]
      rw [ha] at CC
      clear hwt ha hw
      obtain ⟨s, wd, rb, d0, d1, d2, d3⟩ := c
      simp only [] at hcase
      unfold Cmp.val at FC ⊢
      rcases hcase with rfl | rfl | rfl | rfl
      all_goals
        go_enter Tryz.func84, Tryz.ntmps84
        go_wp2_with fail
        refine (FC.out _).mono ?_
        rintro e w1 ⟨rfl, hb1⟩
        have B1 := hid (BA.out.trans (hb1.mono BA.out.size))
        have hc1 : w1.cell? ⟨W.heap.size, 1, none⟩ = _ := (hb1.cell (p := ⟨W.heap.size, 1, none⟩) (by simp)).trans (by rw [cell_of_row _ _ _ _ 96 (0, 0) (heap_alloc_new W _)])
        have e1 : w1.cell? ⟨0, 0, none⟩ = some (.iface 330 (.pointer (some (Ad 1)))) := (HE.out.later B1.out).cell 1 (by decide) (by decide)
        have CD := hid (CC.out w1)
        have HB1 := hid hb1
        clear hb1 FC CC
        go_wp2_with fail
        refine (CD.out _ (by simpa using HB1.out) ⟨_, _, rfl, by first | exact .inr rfl | exact .inl rfl⟩).mono ?_
        rintro e w2 ⟨rfl, rfl⟩
        clear CD
        go_wp2_with fail
        go_ret
        exact ⟨rfl, B1.out⟩
  · have hwf := wOk_no c hw
    rw [hwf] at FC
    rw [show errV Ad (dErr c) = .nilIface by simp [dErr, hwf, errV]]
    obtain ⟨s, wd, rb, d0, d1, d2, d3⟩ := c
    unfold Cmp.val at FC ⊢
    have BA : Hid (Below W.heap.size W (W.alloc (.cells #[.string s, .int .i64 wd, .bool rb, .int .i64 d0, .int .i64 d1, .int .i64 d2, .int .i64 d3] 96))) := (Below.refl _ _).alloc (Nat.le_refl _) _
    clear hw hwf
    go_enter Tryz.func84, Tryz.ntmps84
    go_wp2_with fail
    refine (FC.out _).mono ?_
    rintro e w1 ⟨rfl, hb1⟩
    have B1 := hid (BA.out.trans (hb1.mono BA.out.size))
    clear hb1 FC
    go_wp2_with fail
    go_ret
    exact ⟨rfl, B1.out⟩
end Go.Proofs.YthadfdbkkmmgoaaGreatDoor.Sc
namespace Go.Proofs.YthadfdbkkmmgoaaGreatDoor.So
open Go.RowKit Go.Shelf Go.Maps
open Go.Proofs.YthadfdbkkmmgoaaGreatDoor.Co (I64 Pt Col CS I64_mid)
open Go.Proofs.YthadfdbkkmmgoaaGreatDoor.At (St bAl cell_blk blk_seen blk_free Ints Err at_err err_leaf wi)
open Go.Proofs.YthadfdbkkmmgoaaGreatDoor.Rs (Prt SD okW fitP PRow mskP Six)
/-- An error, by its number; 0: none. -/
def Er (Ad : Nat → Addr) (W : World) (v : Value) (k : Nat) (n : Nat := 9) : Prop := (k = 0 ∧ v = .nilIface) ∨ (k ≠ 0 ∧ ∃ t q, v = .iface t q ∧ ∃ d, Err Ad W (.iface t q) k (min d n))
theorem Er.later {Ad : Nat → Addr} {W W' : World} {v : Value} {k n : Nat} (h : Er Ad W v k n) (hb : Below W.heap.size W W') : Er Ad W' v k n :=
  h.imp id fun ⟨h0, t, q, e, d, hd⟩ => ⟨h0, t, q, e, d, hd.later hb⟩
theorem Er.none (Ad : Nat → Addr) (W : World) {n : Nat} : Er Ad W .nilIface 0 n := .inl ⟨rfl, rfl⟩
theorem Er.leaf (Ad : Nat → Addr) (W : World) (k : Nat) (hk : 1 ≤ k ∧ k ≤ 18) {n : Nat} : Er Ad W (.iface 330 (.pointer (some (Ad k)))) k n := .inr ⟨by omega, _, _, rfl, 0, by rw [Nat.zero_min]; exact err_leaf Ad W k hk⟩
theorem Er.of {Ad : Nat → Addr} {W : World} {t : TypeId} {q : Value} {k d n : Nat} (h0 : k ≠ 0) (h : Err Ad W (.iface t q) k d) (hn : d ≤ n := by omega) : Er Ad W (.iface t q) k n := .inr ⟨h0, t, q, rfl, d, by rw [Nat.min_eq_left hn]; exact h⟩
theorem Er.up {Ad : Nat → Addr} {W : World} {v : Value} {k n m : Nat} (h : Er Ad W v k n) (hn : n ≤ m := by omega) : Er Ad W v k m :=
  h.imp id fun ⟨h0, t, q, e, d, hd⟩ => ⟨h0, t, q, e, min d n, by rw [show min (min d n) m = min d n by omega]; exact hd⟩
theorem at_er (Ad : Nat → Addr) (s : ByteArray) (v : Value) (k : Nat) (w : World) {n m : Nat} (h : Er Ad w v k n) (hm : n + 1 ≤ m := by omega) :
    Calls Tryz.prog 38 #[.string s, v] w fun e w' => ∃ v', e = .returned v' ∧ Er Ad w' v' k m ∧ Below w.heap.size w w' := by
  rcases h with ⟨rfl, rfl⟩ | ⟨h0, t, q, rfl, d, hd⟩
  · exact (at_nil s w).mono fun e w' ⟨q1, q2⟩ => ⟨_, q1, .inl ⟨rfl, rfl⟩, by rw [q2]; exact Below.refl _ _⟩
  · exact (at_err Ad s _ k _ w hd).mono fun e w' ⟨t, q, q1, q2, q3⟩ => ⟨_, q1, Er.of h0 q2, q3⟩
theorem check_any (Ad : Nat → Addr) {ex : Option Nat} {B : Nat} {W : World} {sb : Nat} {c : CV} {s : SD} (h : Sto ex B W sb c s) (hE : Env8 W Ad) (p : Prt) :
    Calls Tryz.prog 170 #[.pointer (some ⟨sb, 0, none⟩), .agg #[.int .i64 p.c, .int .i64 p.v0, .int .i64 p.v1, .int .i64 p.v2, .int .i64 p.v3, .int .i64 p.t]] W fun e W' => ∃ v, e = .returned v ∧ Er Ad W' v (if fitP s.ws p then 0 else 1) 1 ∧ Below W.heap.size W W' := by
  by_cases hc : p.c < 0 ∨ (s.ws.length : Int) ≤ p.c
  · rw [Rs.fit_out hc]
    exact (check_out Ad h hE p hc).mono fun e W' ⟨t, q, q1, q2, q3⟩ => ⟨_, q1, Er.of (by decide) q2, q3⟩
  · refine (check_in Ad h hE p (cc := p.c.toNat) (by omega) (by omega)).mono fun e W' ⟨v, q1, q2, q3⟩ => ⟨v, q1, ?_, q3⟩
    cases hf : fitP s.ws p
    · rw [hf] at q2
      obtain ⟨t, q, rfl, q4⟩ := q2
      exact Er.of (by decide) q4
    · rw [hf] at q2
      exact .inl ⟨rfl, q2⟩
/-- What is wrong with parts. -/
def chkL (ws : List Nat) (l : List Prt) : Nat := if l.all (fitP ws) then (if l.Pairwise (fun x y => x.c ≠ y.c) then 0 else 9) else 1
theorem chk_unfit {ws : List Nat} {l : List Prt} {p : Prt} (hp : p ∈ l) (hf : fitP ws p = false) : chkL ws l = 1 := by
  unfold chkL
  rw [if_neg]
  intro h
  rw [List.all_eq_true.1 h p hp] at hf
  cases hf
theorem chk_ok {ws : List Nat} {l : List Prt} (h : chkL ws l = 0) : (∀ p ∈ l, fitP ws p = true) ∧ Apart l := by
  unfold chkL at h
  split at h
  · rename_i h1
    split at h
    · rename_i h2
      exact ⟨List.all_eq_true.1 h1, h2⟩
    · cases h
  · cases h
theorem take_snoc {l : List Prt} {k : Nat} {p : Prt} (hp : l[k]? = some p) : l.take (k + 1) = l.take k ++ [p] := by
  obtain ⟨hl, rfl⟩ := List.getElem?_eq_some_iff.1 hp
  exact List.take_succ_eq_append_getElem hl
theorem apart_snoc {l : List Prt} {k : Nat} {p : Prt} {c : Nat} (hp : l[k]? = some p) (hc : p.c = (c : Int)) (hpos : Pos l) (h : Apart (l.take k)) (hb : (mskP (l.take k)).testBit c = false) : Apart (l.take (k + 1)) := by
  rw [take_snoc hp, Apart, List.pairwise_append]
  refine ⟨h, by simp, fun a ha b hb' e => ?_⟩
  simp at hb'
  subst hb'
  have := (msk_mem (fun x hx => hpos x (List.mem_of_mem_take hx)) c).2 ⟨a, ha, by rw [e, hc]⟩
  rw [this] at hb
  cases hb
theorem not_apart {l : List Prt} {k : Nat} {p : Prt} {c : Nat} (hp : l[k]? = some p) (hc : p.c = (c : Int)) (hpos : Pos l) (hb : (mskP (l.take k)).testBit c = true) : ¬ Apart l := fun h => by
  obtain ⟨a, ha, e⟩ := (msk_mem (fun x hx => hpos x (List.mem_of_mem_take hx)) c).1 hb
  have h2 : Apart (l.take (k + 1)) := h.sublist (List.take_sublist _ _)
  rw [take_snoc hp, Apart, List.pairwise_append] at h2
  exact h2.2.2 a ha p (by simp) (by rw [e, hc])
set_option maxHeartbeats 6400000 in
set_option maxRecDepth 100000 in
theorem checkAll_any (Ad : Nat → Addr) {ex : Option Nat} {B : Nat} {W : World} {sb : Nat} {c : CV} {s : SD} (h : Sto ex B W sb c s) (hE : Env8 W Ad) {v : Value} {l : List Prt} (hv : PRow W v l) (hl : l.length ≤ 90) :
    Calls Tryz.prog 151 #[.pointer (some ⟨sb, 0, none⟩), v] W fun e W' => ∃ r, e = .returned r ∧ Er Ad W' r (chkL s.ws l) 2 ∧ Below W.heap.size W W' := by
  obtain ⟨va, vc, rfl, -⟩ := id hv
  have hli : (l.length : Int) ≤ 90 := by omega
  have H := hid h
  have HE := hid hE
  have HV := hid hv
  have hw16 := h.okw.1
  clear h hE hv
  go_enter Tryz.func151, Tryz.ntmps151
  go_wp2_with fail
  go_loopg [5, 6, 7, 13] l.length (fun gh _ _ _ q wr => ∃ k : Nat, k ≤ l.length ∧ gh = l.length - k ∧ q = .int .i64 (k : Int) ∧ Hid (∀ p ∈ l.take k, fitP s.ws p = true) ∧ Hid (Below W.heap.size W wr))
  case atStart => exact ⟨0, Nat.zero_le _, rfl, rfl, (show ∀ p ∈ l.take 0, fitP s.ws p = true from fun p hp => by simp at hp), Below.refl _ _⟩
  case round =>
    obtain ⟨k, hk, rfl, rfl, HF, HB⟩ := hrel
    by_cases hlt : k < l.length
    · have hki : (k : Int) < (l.length : Int) := by omega
      obtain ⟨p, hp⟩ := at_lt l k hlt
      obtain ⟨b, o, rfl, d0, d1, d2, d3, d4, d5⟩ := (HV.out.later HB.out).at hp
      obtain ⟨w3, hw3⟩ : ∃ w3, w3 = wr.alloc (.cells #[.int .i64 p.c, .int .i64 p.v0, .int .i64 p.v1, .int .i64 p.v2, .int .i64 p.v3, .int .i64 p.t] 89) := ⟨_, rfl⟩
      have b3 : Below W.heap.size W w3 := by rw [hw3]; exact HB.out.alloc HB.out.size _
      have y : w3.heap[wr.heap.size]? = some (.cells p.arr 89 (0, 0)) := by rw [hw3]; exact heap_alloc_new wr _
      have y0 := cell_blk y (j := 0) rfl
      have y1 := cell_blk y (j := 1) rfl
      have y2 := cell_blk y (j := 2) rfl
      have y3 := cell_blk y (j := 3) rfl
      have y4 := cell_blk y (j := 4) rfl
      have y5 := cell_blk y (j := 5) rfl
      have CK := hid (check_any Ad (H.out.later b3) (HE.out.later b3) p)
      have HW3 := hid hw3
      have B3 := hid b3
      have HP := hid hp
      clear hw3 b3 y hp
      cases hf : fitP s.ws p
      · rw [hf] at CK
        have HU := hid (chk_unfit (List.mem_of_getElem? HP.out) hf)
        go_upto_region 4 with fail
        rw [← HW3.out]
        go_wp2_with fail
        refine CK.out.mono ?_
        rintro e w4 ⟨v4, rfl, q1, q2⟩
        rcases q1 with ⟨q1, -⟩ | ⟨-, t, q, rfl, d, hd⟩
        · cases q1
        have IT := hid (Sc.itoa_any k (by omega) w4)
        have AC := hid (at_err Ad (Sc.dig k) _ 1 _ w4 hd)
        have B4 := hid (B3.out.trans (q2.mono B3.out.size))
        clear q2 hd CK y0 y1 y2 y3 y4 y5
        go_wp2_with fail
        refine IT.out.mono ?_
        rintro e w5 ⟨rfl, rfl⟩
        go_wp2_with fail
        refine AC.out.mono ?_
        rintro e w6 ⟨t6, q6, rfl, hv6, hb6⟩
        have V6 := hid hv6
        have B6 := hid (B4.out.trans (hb6.mono B4.out.size))
        clear hv6 hb6 IT AC
        go_wp2_with fail
        go_ret
        exact ⟨_, rfl, by rw [HU.out]; exact Er.of (by decide) V6.out, B6.out⟩
      · rw [hf] at CK
        have HF' : Hid (∀ p ∈ l.take (k + 1), fitP s.ws p = true) := fun x hx => by
          rw [take_snoc HP.out] at hx
          rcases List.mem_append.1 hx with hx | hx
          · exact HF.out x hx
          · simp at hx; rw [hx]; exact hf
        go_upto_region 4 with fail
        rw [← HW3.out]
        go_wp2_with fail
        refine CK.out.mono ?_
        rintro e w4 ⟨v4, rfl, q1, q2⟩
        rcases q1 with ⟨-, rfl⟩ | ⟨q1, -⟩
        · have B4 := hid (B3.out.trans (q2.mono B3.out.size))
          clear q2 CK y0 y1 y2 y3 y4 y5
          go_wp2_with fail
          go_roundg (l.length - (k + 1))
          case measure => omega
          case rel => exact ⟨k + 1, by omega, rfl, by go_num, HF'.out, B4.out⟩
        · simp at q1
    · have hki : ¬ ((k : Int) < (l.length : Int)) := by omega
      obtain rfl : k = l.length := by omega
      have hall := HF.out
      rw [List.take_length] at hall
      have HALL := hid hall
      have HPOS : Hid (∀ p ∈ l, 0 ≤ p.c ∧ p.c < 16) := fun p hp => by have := Rs.fit_range (hall p hp); omega
      rename World => wo
      clear hall HF
      go_wp2_with fail
      go_loopg [8, 9, 10, 30] l.length (fun gh sv _ _ q wr => ∃ k m : Nat, k ≤ l.length ∧ gh = l.length - k ∧ q = .int .i64 (k : Int) ∧ sv = .int .u32 (m : Int) ∧ Hid (m = mskP (l.take k)) ∧ Hid (m < 65536) ∧ Hid (Apart (l.take k)) ∧ Hid (Below W.heap.size W wr))
      case atStart => exact ⟨0, 0, Nat.zero_le _, rfl, rfl, rfl, rfl, (show (0 : Nat) < 65536 by decide), (show Apart (l.take 0) by simp [Apart]), HB.out⟩
      case round =>
        obtain ⟨k, m, hk, rfl, rfl, rfl, HM, HM6, HAP, HB2⟩ := hrel
        by_cases hlt : k < l.length
        · have hki : (k : Int) < (l.length : Int) := by omega
          obtain ⟨p, hp⟩ := at_lt l k hlt
          obtain ⟨b, o, rfl, d0, d1, d2, d3, d4, d5⟩ := (HV.out.later HB2.out).at hp
          have hpos := HPOS.out p (List.mem_of_getElem? hp)
          obtain ⟨cc, hc⟩ : ∃ cc : Nat, p.c = (cc : Int) := ⟨p.c.toNat, by omega⟩
          have hc16 : cc < 16 := by omega
          have HP := hid hp
          have HC := hid hc
          have HS := hid (fun w => At.sethas_in m cc (by have := HM6.out; omega) (by omega) w)
          have hb' : Below W.heap.size W (wr.alloc (.cells #[.int .i64 (cc : Int), .int .i64 p.v0, .int .i64 p.v1, .int .i64 p.v2, .int .i64 p.v3, .int .i64 p.t] 89)) := HB2.out.alloc HB2.out.size _
          cases ht : m.testBit cc
          · have WI := hid (fun w => At.with_in m cc (by have := HM6.out; omega) (by omega) w)
            have HN : Hid (wi m cc = mskP (l.take (k + 1))) := by show _ = _; rw [msk_next hp hc, ← HM.out]
            have HN6 : Hid (wi m cc < 65536) := At.wi_lt (n := 16) HM6.out hc16
            have HA' : Hid (Apart (l.take (k + 1))) := apart_snoc hp hc (fun x hx => (HPOS.out x hx).1) HAP.out (by rw [← HM.out]; exact ht)
            have HB' := hid hb'
            rw [ht] at HS
            generalize wi m cc = m2 at *
            clear hp hpos ht HM HM6 hb'
            go_wp2_with (first
              | (go_at_call 94; refine (HS.out _).mono ?_; rintro e w2 ⟨rfl, rfl⟩)
              | (go_at_call 133; refine (WI.out _).mono ?_; rintro e w2 ⟨rfl, rfl⟩))
            go_roundg (l.length - (k + 1))
            case measure => omega
            case rel => exact ⟨k + 1, m2, by omega, rfl, by go_num, rfl, HN.out, HN6.out, HA'.out, HB'.out⟩
          · rw [ht] at HS
            have HU : Hid (chkL s.ws l = 9) := by
              show chkL s.ws l = 9
              unfold chkL
              rw [if_pos (List.all_eq_true.2 HALL.out), if_neg]
              exact not_apart hp hc (fun x hx => (HPOS.out x hx).1) (by rw [← HM.out]; exact ht)
            obtain ⟨w3, hw3⟩ : ∃ w3, w3 = wr.alloc (.cells #[.int .i64 (cc : Int), .int .i64 p.v0, .int .i64 p.v1, .int .i64 p.v2, .int .i64 p.v3, .int .i64 p.t] 89) := ⟨_, rfl⟩
            have y : w3.heap[wr.heap.size]? = some (.cells #[.int .i64 (cc : Int), .int .i64 p.v0, .int .i64 p.v1, .int .i64 p.v2, .int .i64 p.v3, .int .i64 p.t] 89 (0, 0)) := by rw [hw3]; exact heap_alloc_new wr _
            have y0 := cell_blk y (j := 0) rfl
            rw [← hw3] at hb'
            have B3 := hid hb'
            have HW3 := hid hw3
            have IT := hid (Sc.itoa_any k (by omega))
            have KE : Hid (∀ W', Below w3.heap.size w3 W' → W'.cell? ⟨6, 0, none⟩ = some (.iface 330 (.pointer (some (Ad 9))))) := fun W' hb => e9 ((HE.out.later B3.out).later hb)
            have AC : Hid (∀ W', Calls Tryz.prog 38 #[.string (Sc.dig k), .iface 330 (.pointer (some (Ad 9)))] W' fun e w' => ∃ t q, e = .returned (.iface t q) ∧ Err Ad w' (.iface t q) 9 1 ∧ Below W'.heap.size W' w') := fun W' => at_err Ad (Sc.dig k) _ 9 0 W' (err_leaf Ad _ 9 (by decide))
            clear hp hpos ht HM HM6 hb' y hw3
            go_upto_region 12 with fail
            rw [← HW3.out]
            go_wp2_with (go_at_call 94; refine (HS.out _).mono ?_; rintro e w2 ⟨rfl, hq⟩; obtain rfl := hq.symm)
            go_region_held3 (fun W' => W'.cell? ⟨6, 0, none⟩ = some (.iface 330 (.pointer (some (Ad 9)))))
              (first | exact KE.out _ (Below.refl _ _).drew | exact KE.out _ (Below.refl _ _) | exact KE.out _ B6.out)
              (first
                | (go_at_call 127; refine (IT.out _).mono ?_; rintro e w5 ⟨rfl, rfl⟩)
                | (go_at_call 38; refine (AC.out _).mono ?_; rintro e w6 ⟨t6, q6, rfl, hv6, hb6⟩; have V6 := hid hv6; have B6 : Hid (Below w3.heap.size w3 w6) := (by first | exact (Below.refl _ _).drew.trans hb6 | exact (Below.refl _ _).drew.drew.trans hb6 | exact hb6); clear hv6 hb6))
            have B7 : Hid (Below W.heap.size W w6) := B3.out.trans (B6.out.mono B3.out.size)
            clear B6 KE AC IT
            go_wp2_with fail
            go_ret
            exact ⟨_, rfl, by rw [HU.out]; exact Er.of (by decide) V6.out, B7.out⟩
        · have hki : ¬ ((k : Int) < (l.length : Int)) := by omega
          obtain rfl : k = l.length := by omega
          have HU : Hid (chkL s.ws l = 0) := by
            show chkL s.ws l = 0
            have := HAP.out
            rw [List.take_length] at this
            unfold chkL
            rw [if_pos (List.all_eq_true.2 HALL.out)]
            exact if_pos this
          go_wp2_with fail
          go_ret
          exact ⟨_, rfl, by rw [HU.out]; exact Er.none _ _, HB2.out⟩
end Go.Proofs.YthadfdbkkmmgoaaGreatDoor.So
namespace Go.Proofs.YthadfdbkkmmgoaaGreatDoor.So
open Go.RowKit Go.Shelf Go.Maps
open Go.Proofs.YthadfdbkkmmgoaaGreatDoor.Co (I64 Pt Col CS I64_mid)
open Go.Proofs.YthadfdbkkmmgoaaGreatDoor.At (St bAl cell_blk blk_seen blk_free Ints Err at_err err_leaf wi add)
open Go.Proofs.YthadfdbkkmmgoaaGreatDoor.Ro (RS)
open Go.Proofs.YthadfdbkkmmgoaaGreatDoor.Rs (Prt SD okL okW fitP PRow mskP Six insP insr insP_rec mem_insr insr_sorted remP Prts)
theorem insr_perm (p : Prt) : ∀ l : List Prt, (insr p l).Perm (p :: l)
  | [] => by simp [insr]
  | x :: l => by
    unfold insr
    split
    · exact List.Perm.refl _
    · exact ((insr_perm p l).cons x).trans (List.Perm.swap p x l)
/-- Parts by rising components. -/
def sortP (l : List Prt) : List Prt := l.foldl insP []
theorem sort_snoc (l : List Prt) (p : Prt) : sortP (l ++ [p]) = insP (sortP l) p := by unfold sortP; rw [List.foldl_append]; rfl
theorem fold_perm : ∀ (l acc : List Prt), (l.foldl insP acc).Perm (acc ++ l)
  | [], acc => by simp
  | p :: l, acc => by
    rw [List.foldl_cons]
    refine (fold_perm l _).trans ?_
    rw [insP_rec]
    refine ((insr_perm p acc).append_right l).trans ?_
    exact List.perm_middle.symm
theorem sort_perm (l : List Prt) : l.Perm (sortP l) := by
  have := fold_perm l []
  simpa [sortP] using this.symm
theorem fold_sorted : ∀ (l acc : List Prt), acc.Pairwise (fun x y => x.c < y.c) → Apart (acc ++ l) → (l.foldl insP acc).Pairwise (fun x y => x.c < y.c)
  | [], acc, h, _ => h
  | p :: l, acc, h, ha => by
    rw [List.foldl_cons]
    have hp : ∀ x ∈ acc, x.c ≠ p.c := fun x hx => by
      rw [Apart, List.pairwise_append] at ha
      exact ha.2.2 x hx p (by simp)
    refine fold_sorted l _ ?_ ?_
    · rw [insP_rec]; exact insr_sorted h hp
    · rw [insP_rec]
      exact apart_perm ha (List.perm_middle.trans (((insr_perm p acc).append_right l).symm))
theorem sort_ok {ws : List Nat} {l : List Prt} (h : chkL ws l = 0) (ht : ∀ p ∈ l, I64 p.t) : okE ws (sortP l) := by
  obtain ⟨h1, h2⟩ := chk_ok h
  refine ⟨⟨fold_sorted l [] (by simp) (by simpa using h2), fun x hx => ?_⟩, fun x hx => ?_⟩
  · exact Rs.fit_range (h1 x ((sort_perm l).mem_iff.2 hx))
  · have := (sort_perm l).mem_iff.2 hx
    exact ⟨h1 x this, ht x this⟩
/-- A store whose blocks are S. -/
def Str (B : Nat) (W : World) (sb t : Nat) (s : SD) (S : Nat → Prop) : Prop := ∃ c, Sto none B W sb c s ∧ c.t = t ∧ ∀ k, S k ↔ c.f k ≠ (0, 0, 0)
/-- What a call that changes a store leaves. -/
def Goes (B sb t : Nat) (s : SD) (S : Nat → Prop) (W W' : World) : Prop := ∃ S', Str B W' sb t s S' ∧ St S W W' ∧ ∀ k, S' k → S k ∨ W.heap.size ≤ k
section
variable {B : Nat} {W W' : World} {sb t : Nat} {s s' : SD} {S : Nat → Prop}
theorem Str.kept {T : Nat → Prop} (h : Str B W sb t s S) (hs : St T W W') (hd : ∀ k, S k → ¬ T k) : Str B W' sb t s S := by
  obtain ⟨c, h1, h2, h3⟩ := h
  exact ⟨c, h1.keep hs fun k hk => hd k ((h3 k).2 hk), h2, h3⟩
theorem Str.later (h : Str B W sb t s S) (hb : Below W.heap.size W W') : Str B W' sb t s S := h.kept (T := fun _ => False) (St.of_below hb) fun _ _ q => q
theorem Str.lt (h : Str B W sb t s S) (k : Nat) (hk : S k) : B ≤ k ∧ k < W.heap.size := by
  obtain ⟨c, h1, h2, h3⟩ := h
  exact h1.lt k ((h3 k).1 hk)
theorem Str.big (h : Str B W sb t s S) : B ≤ W.heap.size := by obtain ⟨c, h1, h2, h3⟩ := h; exact h1.big
theorem Str.below (h : Str B W sb t s S) (hs : St S W W') : Below B W W' := hs.below (fun k hk => (h.lt k hk).1) h.big
theorem Goes.of {c c' : CV} {t' : Nat} (hS : ∀ k, S k ↔ c.f k ≠ (0, 0, 0)) (h : Sto none B W' sb c' s') (ht : c'.t = t') (hg : Gw c c' W W') : Goes B sb t' s' S W W' :=
  ⟨_, ⟨c', h, ht, fun _ => Iff.rfl⟩, ⟨hg.st.os, hg.st.tape, hg.st.output, hg.st.size, fun k hk hn => hg.st.block k hk fun q => hn ((hS k).2 q)⟩, fun k hk => (hg.new k hk).imp (hS k).2 id⟩
theorem Goes.stay (h : Str B W sb t s S) (hb : Below W.heap.size W W') : Goes B sb t s S W W' := ⟨S, h.later hb, St.of_below hb, fun _ q => .inl q⟩
theorem Goes.after {W0 : World} (hb : Below W0.heap.size W0 W) (h : Goes B sb t s S W W') : Goes B sb t s S W0 W' := by
  obtain ⟨S', h1, h2, h3⟩ := h
  exact ⟨S', h1, (St.of_below hb).trans h2 fun _ _ q => q, fun k hk => (h3 k hk).imp id fun q => Nat.le_trans hb.size q⟩
end
theorem hid_row {S : Nat → Prop} {W : World} {v : Value} {l : List Prt} (h : PRow W v l) (hS : ∀ k, S k → W.heap.size ≤ k) : PRowOut S W v l := by
  obtain ⟨a, c, h1, h2⟩ := h
  refine ⟨a, c, h1, ?_⟩
  rcases l with _ | ⟨p, l⟩
  · exact .inl rfl
  · rcases h2 with h2 | ⟨b, o, q1, q3⟩
    · cases h2
    · refine .inr ⟨b, o, q1, fun q => ?_, q3⟩
      have e1 : b < W.heap.size := World.block_lt_of_cell? W _ (q3 0 p rfl).c0
      have e2 := hS b q
      omega
end Go.Proofs.YthadfdbkkmmgoaaGreatDoor.So
namespace Go.Proofs.YthadfdbkkmmgoaaGreatDoor.So
open Go.RowKit Go.Shelf Go.Maps
open Go.Proofs.YthadfdbkkmmgoaaGreatDoor.Co (I64 Pt Col CS I64_mid)
open Go.Proofs.YthadfdbkkmmgoaaGreatDoor.At (St bAl cell_blk blk_seen blk_free Ints Err at_err err_leaf wi add)
open Go.Proofs.YthadfdbkkmmgoaaGreatDoor.Ro (RS ErrAt)
open Go.Proofs.YthadfdbkkmmgoaaGreatDoor.Rs (Prt SD okL okW fitP PRow mskP Six Prts)
def bSpawn : ByteArray := ⟨#[115, 112, 97, 119, 110]⟩
theorem zero_ent {W : World} {k : Nat} (h : W.heap[k]? = some (.cells #[.int .i64 0, .int .i64 0] 144 (0, 0))) (a b : Value) : ((W.setCell ⟨k, 0, none⟩ a).setCell ⟨k, 1, none⟩ b).heap[k]? = some (.cells #[a, b] 144 (0, 0)) :=
  heap_setCell_same _ k 1 _ 144 b (heap_setCell_same W k 0 _ 144 a h)
theorem two_st (W : World) (k : Nat) (a b : Value) : St (fun x => x = k) W ((W.setCell ⟨k, 0, none⟩ a).setCell ⟨k, 1, none⟩ b) :=
  (St.setCell (S := fun x => x = k) (p := ⟨k, 0, none⟩) a rfl).trans (St.setCell (S := fun x => x = k) (p := ⟨k, 1, none⟩) b rfl) fun _ _ q => q
theorem errat_er {Ad : Nat → Addr} {W : World} {t : TypeId} {q : Value} {b : ByteArray} {k : Nat} (h0 : k ≠ 0) (h : ErrAt Ad W (.iface t q) b k) : Er Ad W (.iface t q) k 1 := Er.of h0 (d := 1) ⟨[b], h⟩
theorem Er.zero {Ad : Nat → Addr} {W : World} {v : Value} {n : Nat} (h : Er Ad W v 0 n) : v = .nilIface := h.elim (fun q => q.2) fun q => absurd rfl q.1
theorem ro_st' {S : Nat → Prop} {a b : World} (h : Ro.St S a b) : St S a b := ⟨h.os, h.tape, h.output, h.size, h.block⟩
set_option maxHeartbeats 1600000 in
set_option maxRecDepth 100000 in
theorem spawn_nil (Ad : Nat → Addr) (W : World) (hE : Env8 W Ad) (v : Value) :
    Calls Tryz.prog 116 #[.pointer none, v] W fun e W' => ∃ r, e = .returned (.tuple #[.agg #[.int .i64 0, .int .i64 0], r]) ∧ Er Ad W' r 2 ∧ Below W.heap.size W W' := by
  obtain ⟨w1, hw1⟩ : ∃ w1, w1 = W.alloc (.cells #[.int .i64 0, .int .i64 0] 144) := ⟨_, rfl⟩
  have b1 : Below W.heap.size W w1 := by rw [hw1]; exact bAl _ _
  have r1 : w1.heap[W.heap.size]? = some (.cells #[.int .i64 0, .int .i64 0] 144 (0, 0)) := by rw [hw1]; exact heap_alloc_new W _
  have c2 := e2 (hE.later b1)
  have AC := hid (fun str => at_err Ad str _ 2 0 w1 (err_leaf Ad _ 2 (by decide)))
  have HW1 := hid hw1
  have B1 := hid b1
  have R1 := hid r1
  clear hw1 b1 hE r1
  go_enter Tryz.func116, Tryz.ntmps116
  go_upto_region 1 with fail
  rw [← HW1.out]
  go_wp2_with fail
  refine (AC.out _).mono ?_
  rintro e w2 ⟨t, q, rfl, hv, hb⟩
  have HV := hid hv
  have B2 := hid (B1.out.trans (hb.mono B1.out.size))
  have R2 := hid (blk_seen hb (Nat.le_refl _) R1.out)
  have d0 := cell_blk R2.out (j := 0) rfl
  have d1 := cell_blk R2.out (j := 1) rfl
  have f0 := blk_free R2.out 0
  have f1 := blk_free R2.out 1
  have PS := hid (two_st w2 W.heap.size (.int .i64 0) (.int .i64 0))
  have PB := hid (zero_ent R2.out (.int .i64 0) (.int .i64 0))
  clear hv hb AC
  go_wp2_with fail
  have hsame : (w2.setCell ⟨W.heap.size, 0, none⟩ (.int .i64 0)).setCell ⟨W.heap.size, 1, none⟩ (.int .i64 0) = w2 := by
    rw [Co.set_same R2.out rfl, Co.set_same R2.out rfl]
  rw [hsame]
  exact bodyPost_ret (v := .tuple #[.agg #[.int .i64 0, .int .i64 0], .iface t q]) (by simp [results, Tryz.results116, go_sem, d0, d1]) rfl ⟨_, rfl, Er.of (by decide) HV.out, B2.out⟩
set_option maxHeartbeats 1600000 in
set_option maxRecDepth 100000 in
theorem spawn_bad (Ad : Nat → Addr) {B : Nat} {W : World} {sb : Nat} {c : CV} {s : SD} (h : Sto none B W sb c s) (hE : Env8 W Ad) {v : Value} {l : List Prt} (hv : PRow W v l) (hl : l.length ≤ 90) (hc : chkL s.ws l ≠ 0) :
    Calls Tryz.prog 116 #[.pointer (some ⟨sb, 0, none⟩), v] W fun e W' => ∃ r, e = .returned (.tuple #[.agg #[.int .i64 0, .int .i64 0], r]) ∧ Er Ad W' r (chkL s.ws l) ∧ Below W.heap.size W W' := by
  obtain ⟨w1, hw1⟩ : ∃ w1, w1 = W.alloc (.cells #[.int .i64 0, .int .i64 0] 144) := ⟨_, rfl⟩
  have b1 : Below W.heap.size W w1 := by rw [hw1]; exact bAl _ _
  have r1 : w1.heap[W.heap.size]? = some (.cells #[.int .i64 0, .int .i64 0] 144 (0, 0)) := by rw [hw1]; exact heap_alloc_new W _
  have CK := hid (checkAll_any Ad (h.later b1) (hE.later b1) (hv.later b1) hl)
  have HW1 := hid hw1
  have B1 := hid b1
  have R1 := hid r1
  generalize chkL s.ws l = k at *
  clear hw1 b1 hE r1 h hv
  go_enter Tryz.func116, Tryz.ntmps116
  go_upto_region 1 with fail
  rw [← HW1.out]
  go_wp2_with fail
  refine CK.out.mono ?_
  rintro e w2 ⟨r, rfl, q1, q2⟩
  rcases q1 with ⟨q1, -⟩ | ⟨-, t, q, rfl, d, hd⟩
  · exact absurd q1 hc
  have AC := hid (fun str => at_err Ad str _ k _ w2 hd)
  have B2 := hid (B1.out.trans (q2.mono B1.out.size))
  have R2 := hid (blk_seen q2 (Nat.le_refl _) R1.out)
  clear q2 hd CK R1
  go_wp2_with fail
  refine (AC.out _).mono ?_
  rintro e w3 ⟨t3, q3, rfl, hv3, hb3⟩
  have HV := hid hv3
  have B3 := hid (B2.out.trans (hb3.mono B2.out.size))
  have R3 := hid (blk_seen hb3 (Nat.le_refl _) R2.out)
  have d0 := cell_blk R3.out (j := 0) rfl
  have d1 := cell_blk R3.out (j := 1) rfl
  have f0 := blk_free R3.out 0
  have f1 := blk_free R3.out 1
  clear hv3 hb3 AC R2 B2
  go_wp2_with fail
  have hsame : (w3.setCell ⟨W.heap.size, 0, none⟩ (.int .i64 0)).setCell ⟨W.heap.size, 1, none⟩ (.int .i64 0) = w3 := by
    rw [Co.set_same R3.out rfl, Co.set_same R3.out rfl]
  rw [hsame]
  exact bodyPost_ret (v := .tuple #[.agg #[.int .i64 0, .int .i64 0], .iface t3 q3]) (by simp [results, Tryz.results116, go_sem, d0, d1]) rfl ⟨_, rfl, Er.of hc HV.out, B3.out⟩
set_option maxHeartbeats 1600000 in
set_option maxRecDepth 100000 in
theorem spawn_full (Ad : Nat → Addr) {B : Nat} {W : World} {sb : Nat} {c : CV} {s : SD} (h : Sto none B W sb c s) (hE : Env8 W Ad) {v : Value} {l : List Prt} (hv : PRow W v l) (hl : l.length ≤ 90) (hc : chkL s.ws l = 0) (hf : s.r.free = []) :
    Calls Tryz.prog 116 #[.pointer (some ⟨sb, 0, none⟩), v] W fun e W' => ∃ r, e = .returned (.tuple #[.agg #[.int .i64 0, .int .i64 0], r]) ∧ Er Ad W' r 6 ∧ Below W.heap.size W W' := by
  obtain ⟨w1, hw1⟩ : ∃ w1, w1 = W.alloc (.cells #[.int .i64 0, .int .i64 0] 144) := ⟨_, rfl⟩
  have b1 : Below W.heap.size W w1 := by rw [hw1]; exact bAl _ _
  have r1 : w1.heap[W.heap.size]? = some (.cells #[.int .i64 0, .int .i64 0] 144 (0, 0)) := by rw [hw1]; exact heap_alloc_new W _
  have CK := hid (checkAll_any Ad (h.later b1) (hE.later b1) (hv.later b1) hl)
  rw [hc] at CK
  have H1 := hid (h.later b1)
  have HE := hid (hE.later b1)
  have HW1 := hid hw1
  have B1 := hid b1
  have R1 := hid r1
  clear hw1 b1 hE r1 h hv
  go_enter Tryz.func116, Tryz.ntmps116
  go_upto_region 1 with fail
  rw [← HW1.out]
  go_wp2_with fail
  refine CK.out.mono ?_
  rintro e w2 ⟨r, rfl, q1, q2⟩
  obtain rfl := q1.zero
  have H2 := hid (H1.out.later q2)
  have c3 := H2.out.c3
  have TK := hid (Ro.rol_full Ad H2.out.rol (Env8.four (HE.out.later q2)) hf)
  have B2 := hid (B1.out.trans (q2.mono B1.out.size))
  have R2 := hid (blk_seen q2 (Nat.le_refl _) R1.out)
  clear q2 CK R1 hf
  go_wp2_with fail
  refine TK.out.mono ?_
  rintro e w3 ⟨b, rfl, hbb, hv3, hb3⟩
  obtain ⟨w4, hw4⟩ : ∃ w4, w4 = w3.alloc (.cells #[.int .i64 0, .int .i64 0] 144) := ⟨_, rfl⟩
  have b4 : Below w3.heap.size w3 w4 := by rw [hw4]; exact bAl _ _
  have AC := hid (fun str => at_er Ad str _ 6 w4 (m := 9) ((errat_er (by decide) hv3).later b4))
  have B4 := hid ((B2.out.trans (hb3.mono B2.out.size)).trans (b4.mono (Nat.le_trans B2.out.size hb3.size)))
  have R4 := hid (blk_seen b4 (Nat.le_refl _) (blk_seen hb3 (Nat.le_refl _) R2.out))
  have HW4 := hid hw4
  clear hv3 hb3 b4 hw4 TK c3
  go_upto_region 7 with fail
  rw [← HW4.out]
  go_wp2_with fail
  refine (AC.out _).mono ?_
  rintro e w5 ⟨r5, rfl, hv5, hb5⟩
  have HV := hid hv5
  have B5 := hid (B4.out.trans (hb5.mono B4.out.size))
  have R5 := hid (blk_seen hb5 (Nat.le_refl _) R4.out)
  have d0 := cell_blk R5.out (j := 0) rfl
  have d1 := cell_blk R5.out (j := 1) rfl
  have f0 := blk_free R5.out 0
  have f1 := blk_free R5.out 1
  clear hv5 hb5 AC R4 B4
  go_wp2_with fail
  have hsame : (w5.setCell ⟨W.heap.size, 0, none⟩ (.int .i64 0)).setCell ⟨W.heap.size, 1, none⟩ (.int .i64 0) = w5 := by
    rw [Co.set_same R5.out rfl, Co.set_same R5.out rfl]
  rw [hsame]
  exact bodyPost_ret (v := .tuple #[.agg #[.int .i64 0, .int .i64 0], r5]) (by simp [results, Tryz.results116, go_sem, d0, d1]) rfl ⟨_, rfl, HV.out, B5.out⟩
set_option maxHeartbeats 3200000 in
set_option maxRecDepth 100000 in
theorem spawn_ok (Ad : Nat → Addr) {B : Nat} {W : World} {sb : Nat} {c : CV} {s : SD} (h : Sto none B W sb c s) (hE : Env8 W Ad) {v : Value} {l : List Prt} (hv : PRowOut (fun k => c.f k ≠ (0, 0, 0)) W v l) (hl : l.length ≤ 90) (hc : chkL s.ws l = 0) (hti : ∀ p ∈ l, I64 p.t) {f : List Nat} {i : Nat} (hf : s.r.free = f ++ [i]) (ht : c.t ≤ 1000) :
    Calls Tryz.prog 116 #[.pointer (some ⟨sb, 0, none⟩), v] W fun e W' => e = .returned (.tuple #[.agg #[.int .i64 (i : Int), .int .i64 ((s.r.gens.getD i 0 + 1 : Nat) : Int)], .nilIface]) ∧ ∃ c', Sto none B W' sb c' (entered { s with r := s.r.took i } i (sortP l)) ∧ c'.t = c.t + 1 ∧ Gw c c' W W' := by
  obtain ⟨w1, hw1⟩ : ∃ w1, w1 = W.alloc (.cells #[.int .i64 0, .int .i64 0] 144) := ⟨_, rfl⟩
  have b1 : Below W.heap.size W w1 := by rw [hw1]; exact bAl _ _
  have r1 : w1.heap[W.heap.size]? = some (.cells #[.int .i64 0, .int .i64 0] 144 (0, 0)) := by rw [hw1]; exact heap_alloc_new W _
  have CK := hid (checkAll_any Ad (h.later b1) (hE.later b1) (hv.row.later b1) hl)
  rw [hc] at CK
  have H := hid h
  have HW1 := hid hw1
  have B1 := hid b1
  have R1 := hid r1
  have HV := hid hv.more
  have HF := hid hf
  have HO := hid (sort_ok hc hti)
  clear hw1 b1 hE r1 h hv hf hc hti
  go_enter Tryz.func116, Tryz.ntmps116
  go_upto_region 1 with fail
  rw [← HW1.out]
  go_wp2_with fail
  refine CK.out.mono ?_
  rintro e w2 ⟨r, rfl, q1, q2⟩
  obtain rfl := q1.zero
  have B2 := hid (B1.out.trans (q2.mono B1.out.size))
  have H2 := hid (H.out.later B2.out)
  have c3 := H2.out.c3
  have TK := hid (Ro.rol_take H2.out.rol HF.out ht)
  have R2 := hid (blk_seen q2 (Nat.le_refl _) R1.out)
  clear q2 CK R1
  go_wp2_with fail
  refine TK.out.mono ?_
  rintro e w3 ⟨rfl, hr3, hs3⟩
  have hs3' := ro_st' hs3
  obtain ⟨f3, h3, g3⟩ := H2.out.roll hr3 hs3' (fun k hk => .inl hk) (H2.out.lk.take H.out.rol.ok HF.out) (by have := H.out.small; omega)
  obtain ⟨gn, hgn⟩ : ∃ gn : Nat, gn = s.r.gens.getD i 0 + 1 := ⟨_, rfl⟩
  have hgi : ((s.r.gens.getD i 0 : Nat) : Int) + 1 = (gn : Int) := by rw [hgn]; simp
  rw [hgi]
  have G3 := (Gw.of_below (c := c) B2.out).trans g3
  have hal : al { s with r := s.r.took i } i gn := (al_took H.out.rol.ok HF.out i gn).2 (.inl ⟨rfl, hgn⟩)
  have O3 : Hid (f3 W.heap.size = (0, 0, 0)) := Classical.byContradiction fun q => by
    rcases g3.new _ q with q | q
    · have := (H.out.lt _ q).2; omega
    · have := (Array.getElem?_eq_some_iff.1 R2.out).1; omega
  have x3 : w3.heap[W.heap.size]? = some (.cells #[.int .i64 0, .int .i64 0] 144 (0, 0)) := g3.st.at R2.out fun q => by have := (H.out.lt _ q).2; omega
  have v3 := (HV.out.kept (T := fun _ => False) (St.of_below B2.out) fun _ q => q.elim).kept g3.st fun k q => .inl q
  obtain ⟨w4, hw4⟩ : ∃ w4, w4 = w3.alloc (.cells #[.int .i64 (i : Int), .int .i64 (gn : Int)] 144) := ⟨_, rfl⟩
  have b4 : Below w3.heap.size w3 w4 := by rw [hw4]; exact bAl _ _
  have r4 : w4.heap[w3.heap.size]? = some (.cells #[.int .i64 (i : Int), .int .i64 (gn : Int)] 144 (0, 0)) := by rw [hw4]; exact heap_alloc_new w3 _
  have EN := hid (enter_any (h3.later b4) hal ((v3.kept (T := fun _ => False) (St.of_below b4) fun _ q => q.elim).mono fun k q => G3.new k q) (sort_perm l) HO.out)
  have H3 := hid h3
  have GG3 := hid (G3.trans (Gw.of_below b4))
  have X4 := hid (blk_seen b4 (Nat.le_refl _) x3)
  have R4 := hid r4
  have HW4 := hid hw4
  have HGN := hid hgn
  have y0 := cell_blk r4 (j := 0) rfl
  have y1 := cell_blk r4 (j := 1) rfl
  have hW3 : W.heap.size < w3.heap.size := (Array.getElem?_eq_some_iff.1 x3).1
  clear hr3 hs3 hs3' h3 g3 hgn hgi G3 hal x3 v3 b4 r4 hw4 TK c3 R2
  go_upto_region 7 with fail
  rw [← HW4.out]
  go_wp2_with fail
  refine EN.out.mono ?_
  rintro e w5 ⟨rfl, c5, h5, t5, g5⟩
  have G5 := hid (GG3.out.trans g5)
  have H5 := hid h5
  have T5 := hid t5
  have x5 : w5.heap[W.heap.size]? = some (.cells #[.int .i64 0, .int .i64 0] 144 (0, 0)) := g5.st.at X4.out fun q => q O3.out
  have r5 : w5.heap[w3.heap.size]? = some (.cells #[.int .i64 (i : Int), .int .i64 (gn : Int)] 144 (0, 0)) := g5.st.at R4.out fun q => by have := (H3.out.lt _ q).2; omega
  have X5 := hid x5
  have z0 := cell_blk r5 (j := 0) rfl
  have z1 := cell_blk r5 (j := 1) rfl
  have d0 := cell_blk x5 (j := 0) rfl
  have d1 := cell_blk x5 (j := 1) rfl
  have f0 := blk_free x5 0
  have f1 := blk_free x5 1
  have hne : ¬ (w3.heap.size = W.heap.size) := by omega
  have PS := hid (two_st w5 W.heap.size (.int .i64 (i : Int)) (.int .i64 (gn : Int)))
  have PB := hid (zero_ent x5 (.int .i64 (i : Int)) (.int .i64 (gn : Int)))
  have O5 : Hid (c5.f W.heap.size = (0, 0, 0)) := Classical.byContradiction fun q => by
    rcases g5.new _ q with q | q
    · exact q O3.out
    · have := (Array.getElem?_eq_some_iff.1 X4.out).1; omega
  clear h5 t5 g5 x5 r5 EN
  go_wp2_with fail
  obtain ⟨w6, hw6⟩ : ∃ w6, w6 = (w5.setCell ⟨W.heap.size, 0, none⟩ (.int .i64 (i : Int))).setCell ⟨W.heap.size, 1, none⟩ (.int .i64 (gn : Int)) := ⟨_, rfl⟩
  rw [← hw6] at PS PB ⊢
  have t0 := cell_blk PB.out (j := 0) rfl
  have t1 := cell_blk PB.out (j := 1) rfl
  have hk : ∀ k, c5.f k ≠ (0, 0, 0) → ¬ k = W.heap.size := fun k q e => q (by rw [e]; exact O5.out)
  refine bodyPost_ret (v := .tuple #[.agg #[.int .i64 (i : Int), .int .i64 (gn : Int)], .nilIface]) (by simp [results, Tryz.results116, go_sem, t0, t1]) rfl ⟨by rw [HGN.out], c5, H5.out.keep PS.out hk, T5.out, ?_⟩
  refine ⟨G5.out.st.trans PS.out fun k hk' e => ?_, G5.out.new⟩
  omega
end Go.Proofs.YthadfdbkkmmgoaaGreatDoor.So
namespace Go.Proofs.YthadfdbkkmmgoaaGreatDoor.So
open Go.RowKit Go.Shelf Go.Maps
open Go.Proofs.YthadfdbkkmmgoaaGreatDoor.Co (I64 Pt Col CS I64_mid)
open Go.Proofs.YthadfdbkkmmgoaaGreatDoor.At (St bAl cell_blk blk_seen blk_free Ints Err at_err err_leaf wi add lst lst_mem)
open Go.Proofs.YthadfdbkkmmgoaaGreatDoor.Ro (RS ErrAt)
open Go.Proofs.YthadfdbkkmmgoaaGreatDoor.Rs (Prt SD okL okW fitP PRow mskP Six Prts)
section
variable {ex : Option Nat} {B : Nat} {W : World} {sb : Nat} {c : CV} {s : SD}
set_option maxHeartbeats 800000 in
theorem scount_any (h : Sto ex B W sb c s) : Calls Tryz.prog 61 #[.pointer (some ⟨sb, 0, none⟩)] W fun e W' => e = .returned (.int .i64 (s.r.count : Int)) ∧ W' = W := by
  have c3 := h.c3
  have CN := hid (Ro.rol_count h.rol)
  clear h
  go_enter Tryz.func61, Tryz.ntmps61
  go_wp2_with fail
  refine CN.out.mono ?_
  rintro e w1 ⟨rfl, rfl⟩
  go_wp2_with fail
  go_ret
  exact ⟨rfl, rfl⟩
end
/-- find tells that there is nothing. -/
def NoFind (Ad : Nat → Addr) (W : World) (rv : Value) (i g : Int) (k : Nat) : Prop := ∀ W', Below W.heap.size W W' → Calls Tryz.prog 121 #[rv, .agg #[.int .i64 i, .int .i64 g]] W' fun e W2 => e = .returned (.tuple #[.pointer none, .int .i64 0, .iface 330 (.pointer (some (Ad k)))]) ∧ Below W'.heap.size W' W2
theorem nofind_nil (Ad : Nat → Addr) (W : World) (hE : Env8 W Ad) (i g : Int) : NoFind Ad W (.pointer none) i g 2 := fun W' hb => find_nil Ad W' (hE.later hb) i g
theorem nofind_dead (Ad : Nat → Addr) {ex : Option Nat} {B : Nat} {W : World} {sb : Nat} {c : CV} {s : SD} (h : Sto ex B W sb c s) (hE : Env8 W Ad) (i g : Int) (hi : I64 i) (hg : I64 g) (ha : s.r.aliveB i g = false) : NoFind Ad W (.pointer (some ⟨sb, 0, none⟩)) i g 17 := fun _ hb => find_dead Ad (h.later hb) (hE.later hb) i g hi hg ha
theorem NoFind.later {Ad : Nat → Addr} {W W' : World} {rv : Value} {i g : Int} {k : Nat} (h : NoFind Ad W rv i g k) (hb : Below W.heap.size W W') : NoFind Ad W' rv i g k := fun W2 hb2 => h W2 (hb.trans (hb2.mono hb.size))
section
variable {Ad : Nat → Addr} {W : World} {rv : Value} {i g : Int} {k : Nat}
set_option maxHeartbeats 1600000 in
set_option maxRecDepth 100000 in
theorem parts_err (h : NoFind Ad W rv i g k) (hk : 1 ≤ k ∧ k ≤ 18) : Calls Tryz.prog 78 #[rv, .agg #[.int .i64 i, .int .i64 g]] W fun e W' => ∃ r, e = .returned (.tuple #[.slice none 0 0, r]) ∧ Er Ad W' r k ∧ Below W.heap.size W W' := by
  obtain ⟨w1, hw1⟩ : ∃ w1, w1 = W.alloc (.cells #[.int .i64 i, .int .i64 g] 144) := ⟨_, rfl⟩
  have b1 : Below W.heap.size W w1 := by rw [hw1]; exact bAl _ _
  have r1 : w1.heap[W.heap.size]? = some (.cells #[.int .i64 i, .int .i64 g] 144 (0, 0)) := by rw [hw1]; exact heap_alloc_new W _
  have d0 := cell_blk r1 (j := 0) rfl
  have d1 := cell_blk r1 (j := 1) rfl
  have FD := hid (h w1 b1)
  have HW1 := hid hw1
  have B1 := hid b1
  clear hw1 b1 r1 h
  go_enter Tryz.func78, Tryz.ntmps78
  go_upto_region 1 with fail
  rw [← HW1.out]
  go_wp2_with fail
  refine FD.out.mono ?_
  rintro e w2 ⟨rfl, hb⟩
  obtain ⟨w3, hw3⟩ : ∃ w3, w3 = w2.alloc (.cells #[.int .i64 0] 3) := ⟨_, rfl⟩
  have b3 : Below w2.heap.size w2 w3 := by rw [hw3]; exact bAl _ _
  have AC := hid (fun str => at_err Ad str _ k 0 w3 (err_leaf Ad _ k hk))
  have B3 := hid ((B1.out.trans (hb.mono B1.out.size)).trans (b3.mono (Nat.le_trans B1.out.size hb.size)))
  have HW3 := hid hw3
  clear hb FD b3 hw3
  go_upto_region 2 with fail
  rw [← HW3.out]
  go_wp2_with fail
  refine (AC.out _).mono ?_
  rintro e w4 ⟨t, q, rfl, hv, hb⟩
  have HV := hid hv
  have B4 := hid (B3.out.trans (hb.mono B3.out.size))
  clear hv hb AC
  go_wp2_with fail
  exact bodyPost_ret (v := .tuple #[.slice none 0 0, .iface t q]) (by simp [results, Tryz.results78, go_sem]) rfl ⟨_, rfl, Er.of (by omega) HV.out, B4.out⟩
set_option maxHeartbeats 1600000 in
set_option maxRecDepth 100000 in
theorem despawn_err (h : NoFind Ad W rv i g k) (hk : 1 ≤ k ∧ k ≤ 18) : Calls Tryz.prog 117 #[rv, .agg #[.int .i64 i, .int .i64 g]] W fun e W' => ∃ r, e = .returned (.tuple #[.slice none 0 0, r]) ∧ Er Ad W' r k ∧ Below W.heap.size W W' := by
  obtain ⟨w1, hw1⟩ : ∃ w1, w1 = W.alloc (.cells #[.int .i64 i, .int .i64 g] 144) := ⟨_, rfl⟩
  have b1 : Below W.heap.size W w1 := by rw [hw1]; exact bAl _ _
  have r1 : w1.heap[W.heap.size]? = some (.cells #[.int .i64 i, .int .i64 g] 144 (0, 0)) := by rw [hw1]; exact heap_alloc_new W _
  have d0 := cell_blk r1 (j := 0) rfl
  have d1 := cell_blk r1 (j := 1) rfl
  have FD := hid (h w1 b1)
  have HW1 := hid hw1
  have B1 := hid b1
  clear hw1 b1 r1 h
  go_enter Tryz.func117, Tryz.ntmps117
  go_upto_region 1 with fail
  rw [← HW1.out]
  go_wp2_with fail
  refine FD.out.mono ?_
  rintro e w2 ⟨rfl, hb⟩
  have AC := hid (fun str => at_err Ad str _ k 0 w2 (err_leaf Ad _ k hk))
  have B2 := hid (B1.out.trans (hb.mono B1.out.size))
  clear hb FD
  go_wp2_with fail
  refine (AC.out _).mono ?_
  rintro e w3 ⟨t, q, rfl, hv, hb⟩
  have HV := hid hv
  have B3 := hid (B2.out.trans (hb.mono B2.out.size))
  clear hv hb AC
  go_wp2_with fail
  exact bodyPost_ret (v := .tuple #[.slice none 0 0, .iface t q]) (by simp [results, Tryz.results117, go_sem]) rfl ⟨_, rfl, Er.of (by omega) HV.out, B3.out⟩
end
end Go.Proofs.YthadfdbkkmmgoaaGreatDoor.So
namespace Go.Proofs.YthadfdbkkmmgoaaGreatDoor.So
open Go.RowKit Go.Shelf Go.Maps
open Go.Proofs.YthadfdbkkmmgoaaGreatDoor.Co (I64 Pt Col CS I64_mid)
open Go.Proofs.YthadfdbkkmmgoaaGreatDoor.At (St bAl cell_blk blk_seen blk_free Ints Err at_err err_leaf wi add lst lst_mem)
open Go.Proofs.YthadfdbkkmmgoaaGreatDoor.Ro (RS ErrAt)
open Go.Proofs.YthadfdbkkmmgoaaGreatDoor.Rs (Prt SD okL okW fitP PRow mskP Six Prts)
theorem enters97 : ∀ args w, (callFunc 123 args).run Tryz.prog w = .ok (.enter 123 args) w := enters_of Tryz.func123 (by kernel_rfl) rfl
section
variable {B : Nat} {W : World} {sb : Nat} {c : CV} {s : SD}
/-- The table in which one stands. -/
theorem Sto.tabOf {ex : Option Nat} (h : Sto ex B W sb c s) {i g n j m : Nat} {own : List (Nat × Nat)} {y : Nat × Nat} (A : At1 c s i g n j m own y) : Tb B W c.f n (c.tv n) m s.ws own (rowsOf s own) := by
  obtain ⟨m', q1, q2⟩ := h.tabs n own A.tab
  rw [A.set] at q1
  obtain rfl : m = m' := by simpa using q1
  exact q2
theorem Sto.m16 {ex : Option Nat} (h : Sto ex B W sb c s) {i g n j m : Nat} {own : List (Nat × Nat)} {y : Nat × Nat} (A : At1 c s i g n j m own y) : m < 65536 := by
  have := h.atl.ok.u16 (List.mem_of_getElem? A.set)
  exact this
theorem reading {f : Nat → Nat × Nat × Nat} {n : Nat} {x : TV} {m : Nat} {ws : List Nat} {own : List (Nat × Nat)} {rows : Nat → List Pt} (h : Tb B W f n x m ws own rows) (hm : m < 65536) (j xb : Nat) (hj : j < own.length) (hrows : ∀ c, m.testBit c = true → (rows c).length = own.length) (hlt : ∀ k, f k ≠ (0, 0, 0) → k < W.heap.size)
    (hx : W.heap[xb]? = some (.cells #[.int .i64 (j : Int)] 3 (0, 0))) :
    Calls Tryz.prog 122 #[.pointer (some ⟨x.tb, 0, none⟩), .func (.func 123) #[] #[.pointer (some ⟨xb, 0, none⟩)]] W fun e W' => ∃ v, e = .returned v ∧ Prts W.heap.size W' v ((lst 32 m).map fun c => mk c ((rows c).getD j Pt.zero)) ∧ Below W.heap.size W W' := by
  have hc16 : ∀ c, m.testBit c = true → c < 16 := fun c hc => Nat.lt_of_not_le fun q => by
    rw [At.bit_out (n := 16) hm q] at hc
    cases hc
  refine (each_any 123 #[.pointer (some ⟨xb, 0, none⟩)] enters97 x.tb x.cm m x.cb (fun c => mk c ((rows c).getD j Pt.zero)) (fun _ w => Tb B w f n x m ws own rows ∧ w.heap[xb]? = some (.cells #[.int .i64 (j : Int)] 3 (0, 0)) ∧ Below W.heap.size W w) hm ⟨h, hx, Below.refl _ _⟩ h.c0 ?_ ?_ ?_ ?_).mono fun e W' ⟨v, q1, q2, q3, q4⟩ => ⟨v, q1, q2, q3.2.2⟩
  · rintro k w w' ⟨k1, k2, k3⟩ hb
    exact ⟨k1.later hb, blk_seen hb (Nat.le_refl _) k2, k3.trans (hb.mono k3.size)⟩
  · rintro k w ⟨k1, k2, k3⟩
    refine ⟨k1.c2, fun c hc => ?_⟩
    have := k1.look (c : Int) (I64_mid (by omega) (by have := hc16 c hc; omega))
    rw [lk_nat] at this
    unfold colMap at this
    rw [if_pos hc] at this
    exact this
  · rintro k w w' lv q ⟨k1, k2, k3⟩ hw hp hs
    have hlv : ∀ y, lv.ownBlock = some y → W.heap.size ≤ y := fun y hy => (hp.lt y hy).1
    have hxl := (Array.getElem?_eq_some_iff.1 hx).1
    refine ⟨k1.move hs (fun y hy e => ?_) fun _ _ _ => Iff.rfl, hs.at k2 fun e => ?_, k3.trans (hs.below hlv hw)⟩
    · have := hlv y e
      have := hlt y (cls_ne hy).1
      omega
    · have := hlv _ e; omega
  · rintro k c w hc ⟨k1, k2, k3⟩ hw
    have hcb := ((lst_mem m c 32).1 (List.mem_of_getElem? hc)).2
    obtain ⟨wd, q1, q2⟩ := k1.col c hcb
    have hl := hrows c hcb
    obtain ⟨p, hp⟩ := at_lt (rows c) j (by omega)
    have ep : (rows c).getD j Pt.zero = p := by rw [List.getD_eq_getElem?_getD, hp]; rfl
    refine (row1_any q2 j p hp xb (cell_blk k2 rfl)).mono ?_
    rintro e w' ⟨rfl, hb⟩
    exact ⟨by rw [ep, mk_val], ⟨k1.later hb, blk_seen hb (Nat.le_refl _) k2, k3.trans (hb.mono k3.size)⟩, St.of_below hb⟩
set_option maxHeartbeats 1600000 in
set_option maxRecDepth 100000 in
theorem parts_ok {i g : Nat} (h : Sto none B W sb c s) (ha : al s i g) : Calls Tryz.prog 78 #[.pointer (some ⟨sb, 0, none⟩), .agg #[.int .i64 (i : Int), .int .i64 (g : Int)]] W fun e W' => ∃ v, e = .returned (.tuple #[v, .nilIface]) ∧ Prts W.heap.size W' v (s.at i) ∧ Below W.heap.size W W' := by
  obtain ⟨n, j, m, own, y, A⟩ := h.stands ha (by simp)
  obtain ⟨w1, hw1⟩ : ∃ w1, w1 = W.alloc (.cells #[.int .i64 (i : Int), .int .i64 (g : Int)] 144) := ⟨_, rfl⟩
  have b1 : Below W.heap.size W w1 := by rw [hw1]; exact bAl _ _
  have r1 : w1.heap[W.heap.size]? = some (.cells #[.int .i64 (i : Int), .int .i64 (g : Int)] 144 (0, 0)) := by rw [hw1]; exact heap_alloc_new W _
  have d0 := cell_blk r1 (j := 0) rfl
  have d1 := cell_blk r1 (j := 1) rfl
  have h1 := h.later b1
  have FD := hid (find_some h1 ha A)
  have TB := hid (h1.tabOf A)
  have HW1 := hid hw1
  have B1 := hid b1
  have AA := hid A
  have H := hid h
  have hm16 := h.m16 A
  obtain ⟨x, hx⟩ : ∃ x, x = c.tv n := ⟨_, rfl⟩
  rw [← hx] at FD TB
  clear hw1 b1 r1 h h1 ha A hx
  go_enter Tryz.func78, Tryz.ntmps78
  go_upto_region 1 with fail
  rw [← HW1.out]
  go_wp2_with fail
  refine FD.out.mono ?_
  rintro e w2 ⟨rfl, hb⟩
  obtain ⟨w3, hw3⟩ : ∃ w3, w3 = w2.alloc (.cells #[.int .i64 (j : Int)] 3) := ⟨_, rfl⟩
  have b3 : Below w2.heap.size w2 w3 := by rw [hw3]; exact bAl _ _
  have r3 : w3.heap[w2.heap.size]? = some (.cells #[.int .i64 (j : Int)] 3 (0, 0)) := by rw [hw3]; exact heap_alloc_new w2 _
  have B3 := hid ((B1.out.trans (hb.mono B1.out.size)).trans (b3.mono (Nat.le_trans B1.out.size hb.size)))
  have hj := (List.getElem?_eq_some_iff.1 AA.out.here).1
  have RD := hid (reading ((TB.out.later hb).later b3) hm16 j w2.heap.size hj (fun q _ => by unfold rowsOf; simp) (fun k hk => Nat.lt_of_lt_of_le (H.out.lt k hk).2 B3.out.size) r3)
  rw [AA.out.msk, parts_left AA.out.ok H.out.okw.1 AA.out.here] at RD
  have HW3 := hid hw3
  clear hb FD b3 hw3 r3
  go_upto_region 2 with fail
  rw [← HW3.out]
  go_wp2_with fail
  refine RD.out.mono ?_
  rintro e w4 ⟨v, rfl, hv, hb⟩
  have HV := hid (hv.lower B3.out.size)
  have B4 := hid (B3.out.trans (hb.mono B3.out.size))
  clear hv hb RD
  go_wp2_with fail
  exact bodyPost_ret (v := .tuple #[v, .nilIface]) (by simp [results, Tryz.results78, go_sem]) rfl ⟨_, rfl, HV.out, B4.out⟩
set_option maxHeartbeats 3200000 in
set_option maxRecDepth 100000 in
theorem despawn_ok {i g : Nat} (h : Sto none B W sb c s) (ha : al s i g) : Calls Tryz.prog 117 #[.pointer (some ⟨sb, 0, none⟩), .agg #[.int .i64 (i : Int), .int .i64 (g : Int)]] W fun e W' => ∃ v, e = .returned (.tuple #[v, .nilIface]) ∧ Prts W.heap.size W' v (s.at i) ∧ ∃ c', Sto none B W' sb c' { s with r := s.r.freed i } ∧ c'.t = c.t ∧ Gw c c' W W' ∧ ∀ k, v.ownBlock = some k → c'.f k = (0, 0, 0) := by
  obtain ⟨n, j, m, own, y, A⟩ := h.stands ha (by simp)
  obtain ⟨w1, hw1⟩ : ∃ w1, w1 = W.alloc (.cells #[.int .i64 (i : Int), .int .i64 (g : Int)] 144) := ⟨_, rfl⟩
  have b1 : Below W.heap.size W w1 := by rw [hw1]; exact bAl _ _
  have r1 : w1.heap[W.heap.size]? = some (.cells #[.int .i64 (i : Int), .int .i64 (g : Int)] 144 (0, 0)) := by rw [hw1]; exact heap_alloc_new W _
  have d0 := cell_blk r1 (j := 0) rfl
  have d1 := cell_blk r1 (j := 1) rfl
  have h1 := h.later b1
  have FD := hid (find_some h1 ha A)
  have HW1 := hid hw1
  have B1 := hid b1
  have R1 := hid r1
  have H := hid h
  have H1 := hid h1
  have HA := hid ha
  have hgI : I64 (g : Int) := by
    have hg := (al_iff s i g).1 ha
    have ho := h.rol.old g (List.mem_of_getElem? hg.2)
    have := h.small
    exact I64_mid (by omega) (by omega)
  have hiI : I64 (i : Int) := by have := al_lt ha; have := h.rol.small; exact I64_mid (by omega) (by omega)
  have HGI := hid hgI
  have HII := hid hiI
  clear hw1 b1 r1 h h1 ha A hgI hiI
  go_enter Tryz.func117, Tryz.ntmps117
  go_upto_region 1 with fail
  rw [← HW1.out]
  go_wp2_with fail
  refine FD.out.mono ?_
  rintro e w2 ⟨rfl, hb⟩
  have B2 := hid (B1.out.trans (hb.mono B1.out.size))
  have r2 := blk_seen hb (Nat.le_refl _) R1.out
  have x0 := cell_blk r2 (j := 0) rfl
  have x1 := cell_blk r2 (j := 1) rfl
  have R2 := hid r2
  have LV := hid (leave_any (H1.out.later hb) HA.out)
  clear hb FD r2 d0 d1
  go_wp2_with fail
  refine LV.out.mono ?_
  rintro e w3 ⟨v, rfl, hv, c3, h3, t3, g3, n3⟩
  have H3 := hid h3
  have T3 := hid t3
  have G3 := hid ((Gw.of_below B2.out).trans g3)
  have hWl : W.heap.size < w2.heap.size := (Array.getElem?_eq_some_iff.1 R2.out).1
  have V3 := hid (hv.lower B2.out.size)
  have r3 : w3.heap[W.heap.size]? = some (.cells #[.int .i64 (i : Int), .int .i64 (g : Int)] 144 (0, 0)) := g3.st.at R2.out fun q => by have := (H.out.lt _ q).2; omega
  have VN : Hid (∀ k, v.ownBlock = some k → ¬ c3.f k ≠ (0, 0, 0)) := fun k hk q => by
    have e1 := (hv.lt k hk).1
    have e2 := (H.out.lt k (n3 k q)).2
    omega
  have R3 := hid r3
  have KK : Hid (∀ W', Below w3.heap.size w3 W' → W'.cell? ⟨sb, 3, none⟩ = some (.pointer (some ⟨c3.rb, 0, none⟩)) ∧ W'.cell? ⟨W.heap.size, 0, none⟩ = some (.int .i64 (i : Int)) ∧ W'.cell? ⟨W.heap.size, 1, none⟩ = some (.int .i64 (g : Int))) := fun W' hb =>
    ⟨(H3.out.later hb).c3, cell_blk (blk_seen hb (Nat.le_refl _) R3.out) rfl, cell_blk (blk_seen hb (Nat.le_refl _) R3.out) rfl⟩
  have O3 : Hid (¬ c3.f W.heap.size ≠ (0, 0, 0)) := fun q => by have := (H.out.lt _ (n3 _ q)).2; omega
  have FR : Hid (∀ W', Below w3.heap.size w3 W' → Calls Tryz.prog 155 #[.pointer (some ⟨c3.rb, 0, none⟩), .agg #[.int .i64 (i : Int), .int .i64 (g : Int)]] W' fun e W2 => e = .returned .nilIface ∧ (∃ c', Sto none B W2 sb c' { s with r := s.r.freed i } ∧ c'.t = c.t ∧ Gw c c' W W2 ∧ ∀ k, v.ownBlock = some k → c'.f k = (0, 0, 0)) ∧ Prts W.heap.size W2 v (s.at i) ∧ W2.cell? ⟨sb, 3, none⟩ = some (.pointer (some ⟨c3.rb, 0, none⟩)) ∧ W2.cell? ⟨W.heap.size, 0, none⟩ = some (.int .i64 (i : Int)) ∧ W2.cell? ⟨W.heap.size, 1, none⟩ = some (.int .i64 (g : Int))) := fun W' hb => by
    have h' := H3.out.later hb
    refine (Ro.rol_free h'.rol i (g : Int) HII.out HGI.out HA.out).mono ?_
    rintro e W2 ⟨rfl, S', q1, q2, q3⟩
    have q2' := ro_st' q2
    obtain ⟨f', k1, k2⟩ := h'.roll q1 q2' q3 (h'.lk.free HA.out) h'.small
    have g' := (G3.out.trans (Gw.of_below hb)).trans k2
    have r' := k2.st.at (blk_seen hb (Nat.le_refl _) R3.out) O3.out
    refine ⟨rfl, ⟨_, k1, T3.out, g', fun k hk => Classical.byContradiction fun q => (k2.new k q).elim (VN.out k hk) fun q' => by have := (V3.out.lt k hk).2; have := hb.size; omega⟩, (V3.out.later hb).kept k2.st VN.out, k1.c3, cell_blk r' rfl, cell_blk r' rfl⟩
  clear hv h3 t3 g3 n3 r3 LV x0 x1
  go_wp2_with fail
  go_region_held3 (fun W' => W'.cell? ⟨sb, 3, none⟩ = some (.pointer (some ⟨c3.rb, 0, none⟩)) ∧ W'.cell? ⟨W.heap.size, 0, none⟩ = some (.int .i64 (i : Int)) ∧ W'.cell? ⟨W.heap.size, 1, none⟩ = some (.int .i64 (g : Int))) (first | exact KK.out _ (Below.refl _ _).drew | exact KK.out _ (Below.refl _ _) | exact K4.out)
    ((go_at_call 155; refine (FR.out _ (by first | exact (Below.refl _ _).drew | exact Below.refl _ _)).mono ?_; rintro e w4 ⟨rfl, hc4, hv4, hk4⟩; have K4 := hid hk4; have C4 := hid hc4; have V4 := hid hv4; clear hk4 hc4 hv4))
  clear K4 KK FR
  go_wp2_with fail
  exact bodyPost_ret (v := .tuple #[v, .nilIface]) (by simp [results, Tryz.results117, go_sem]) rfl ⟨_, rfl, V4.out, C4.out⟩
end
end Go.Proofs.YthadfdbkkmmgoaaGreatDoor.So
namespace Go.Proofs.YthadfdbkkmmgoaaGreatDoor.So
open Go.RowKit Go.Shelf Go.Maps
open Go.Proofs.YthadfdbkkmmgoaaGreatDoor.Co (I64 Pt Col CS I64_mid lies put6_blk put6_st put6)
open Go.Proofs.YthadfdbkkmmgoaaGreatDoor.At (St bAl cell_blk blk_seen blk_free)
section
variable {B : Nat} {W : World} {rb : Nat} {s : CS} {S : Nat → Prop}
set_option maxHeartbeats 1600000 in
set_option maxRecDepth 100000 in
theorem get1_any (h : Col B W rb s S) (n : Nat) (p : Pt) (hp : s.rows[n]? = some p) :
    Calls Tryz.prog 126 #[.pointer (some ⟨rb, 0, none⟩), .int .i64 (n : Int)] W fun e W' => e = .returned (.tuple #[p.val s.comp, .nilIface]) ∧ Below W.heap.size W W' := by
  obtain ⟨W1, hW1⟩ : ∃ W1, W1 = W.alloc (.cells #[.int .i64 0, .int .i64 0, .int .i64 0, .int .i64 0, .int .i64 0, .int .i64 0] 89) := ⟨_, rfl⟩
  have b1 : Below W.heap.size W W1 := by rw [hW1]; exact bAl _ _
  have r1 : W1.heap[W.heap.size]? = some (.cells (Pt.zero.arr 0) 89 (0, 0)) := by rw [hW1]; exact heap_alloc_new W _
  have TK := hid (Co.col_row (h.later b1) n p hp)
  have HW1 := hid hW1
  have B1 := hid b1
  have R1 := hid r1
  unfold Pt.val at TK ⊢
  generalize s.comp = cm at *
  clear h hp b1 hW1 r1
  go_enter Tryz.func126, Tryz.ntmps126
  go_upto_region 1 with fail
  rw [← HW1.out]
  go_wp2_with fail
  refine TK.out.mono ?_
  rintro e w2 ⟨rfl, hb⟩
  have B2 := hid (B1.out.trans (hb.mono B1.out.size))
  have r2 : w2.heap[W.heap.size]? = some (.cells (Pt.zero.arr 0) 89 (0, 0)) := blk_seen hb (Nat.le_refl _) R1.out
  have R2 := hid r2
  obtain ⟨x0, x1, x2, x3, x4, x5, f0, f1, f2, f3, f4, f5⟩ := lies r2
  clear hb r2 TK
  go_wp2_with fail
  have PB := put6_blk R2.out rfl cm p
  have PS := put6_st w2 W.heap.size cm p
  unfold put6 at PB PS
  obtain ⟨d0, d1, d2, d3, d4, d5, -, -, -, -, -, -⟩ := lies PB
  generalize (((((w2.setCell ⟨W.heap.size, 0, none⟩ (.int .i64 cm)).setCell ⟨W.heap.size, 1, none⟩ (.int .i64 p.a)).setCell ⟨W.heap.size, 2, none⟩ (.int .i64 p.b)).setCell ⟨W.heap.size, 3, none⟩ (.int .i64 p.c)).setCell ⟨W.heap.size, 4, none⟩ (.int .i64 p.d)).setCell ⟨W.heap.size, 5, none⟩ (.int .i64 p.t) = w3 at *
  exact bodyPost_ret (v := .tuple #[.agg #[.int .i64 cm, .int .i64 p.a, .int .i64 p.b, .int .i64 p.c, .int .i64 p.d, .int .i64 p.t], .nilIface]) (by simp [results, Tryz.results126, go_sem, d0, d1, d2, d3, d4, d5]) rfl ⟨rfl, B2.out.trans (PS.below (B := W.heap.size) (fun k hk => by omega) B2.out.size)⟩
end
end Go.Proofs.YthadfdbkkmmgoaaGreatDoor.So
