/- awake. -/
import Derived.Test.YtkhhiddemihnbaaDoorCwDa
import Derived.Test.YtkhhiddemihnbaaDoorCwDb
import Derived.Test.YtkhhiddemihnbaaDoorCwCz
namespace Go.Proofs.YtkhhiddemihnbaaDoor.Cw
open Go.RowKit Go.Shelf
def l3 : List Ins := [(1, 3, 0), (1, 4, 0), (6, 0, 0)]
def l2 : List Ins := [(1, 3, 0), (6, 0, 0)]
theorem nw3 : NoWhere l3 := by unfold NoWhere; decide
theorem rc31 : Rc l3 1 1 := by
  have h := (rc_zero l3).next (q := 1) (x := (1, 3, 0)) rfl (by decide)
  exact h
theorem rc32 : Rc l3 2 2 := by
  have h := rc31.next (q := 2) (x := (1, 4, 0)) rfl (by decide)
  exact h
theorem rc33 : Rc l3 3 1 := by
  have h := rc32.next (q := 3) (x := (6, 0, 0)) rfl (by decide)
  exact h
theorem lbl3 : Lbl l3 [0, 1, 2, 1] := by
  refine ⟨rfl, rfl, ?_, ?_⟩
  · intro p n h
    match p, h with
    | 0, h => simp at h; subst h; exact .inr ⟨by decide, rc_zero _⟩
    | 1, h => simp at h; subst h; exact .inr ⟨by decide, rc31⟩
    | 2, h => simp at h; subst h; exact .inr ⟨by decide, rc32⟩
    | 3, h => simp at h; subst h; exact .inr ⟨by decide, rc33⟩
    | p + 4, h => simp at h
  · intro p n x h h0 hx
    match p, h, hx with
    | 0, h, hx => simp [l3] at h hx; subst h; subst hx; exact ⟨⟨by decide, by decide⟩, by decide⟩
    | 1, h, hx => simp [l3] at h hx; subst h; subst hx; exact ⟨⟨by decide, by decide⟩, by decide⟩
    | 2, h, hx => simp [l3] at h hx; subst h; subst hx; exact ⟨⟨by decide, by decide⟩, by decide⟩
    | p + 3, h, hx => simp [l3] at hx
theorem no2 : ¬ Fine l2 := by
  intro h
  have h1 : Rc l2 1 1 := (rc_zero l2).next (q := 1) (x := (1, 3, 0)) rfl (by decide)
  have := (h.2.1 1 1 (6, 0, 0) h1 rfl).1
  exact absurd this (by decide)
theorem dep3 {B : Nat} {W : World} {r b : Value} (h : DepP l3 B W r b) : b = .bool true ∧ IRow W r [0, 1, 2, 1] := by
  rcases h with ⟨-, db, d, rfl, rfl, lb, hb, -⟩ | ⟨-, -, hn⟩
  · obtain rfl := lb.uniq lbl3
    exact ⟨rfl, irow_blk hb⟩
  · exact absurd (lbl3.fine nw3) hn
theorem dep2 {B : Nat} {W : World} {r b : Value} (h : DepP l2 B W r b) : b = .bool false := by
  rcases h with ⟨nw, db, d, rfl, rfl, lb, hb, -⟩ | ⟨-, rfl, -⟩
  · exact absurd (lb.fine nw) no2
  · rfl
theorem chk2 {L : Leaves} (h : ChkR [] [] l2 L) : L = [([wC], 12)] := by
  have he : errsL [] [] l2 = [] := (errs_nil _ _ _).2 ⟨by decide, by unfold OkI; decide⟩
  rcases h with ⟨h1, -⟩ | ⟨-, ⟨h1, -⟩ | ⟨-, rfl⟩⟩
  · exact absurd he h1
  · exact absurd h1 no2
  · rfl
theorem top_one {Ad : Nat → Addr} {n₀ : Nat} {W : World} {v : Value} {p : List ByteArray × Nat} (h : Top Ad n₀ W 3 v [p]) : Chn Ad n₀ W 3 v p := by
  generalize hL : [p] = L at h
  cases h using Top.ways with
  | empty => cases hL
  | one v q h => cases hL; exact h
  | many b vs h =>
    have := h.two
    have e := congrArg List.length hL
    simp at e
    omega
theorem is_chn (Ad : Nat → Addr) {W : World} {v : Value} {p : List ByteArray × Nat} {k d : Nat} (hE : Env8 W Ad) (h : Chn Ad W.heap.size W d v p) (hp : p.2 ∈ eight) (hk : k ∈ eight) :
    Calls Tryd.prog 23 #[v, .iface 163 (.pointer (some (Ad k)))] W fun e W' => e = .returned (.bool (decide (p.2 = k))) ∧ Below W.heap.size W W' := by
  obtain ⟨t, q, rfl, -⟩ := h.1.shape
  refine is_by Ad k t q _ W ((eis_gen Ad W.heap.size k W p.1 _ p.2 (hE.sen p.2 hp (eight_le p.2 hp).2) (hE.sen k hk (eight_le k hk).2) (hE.same hp hk) h.1).mono ?_)
  rintro e w' ⟨rfl, rfl⟩
  exact ⟨rfl, Below.refl _ _⟩
def arrI (l : List Ins) : Array Value := (l.flatMap fun x => [.int .i64 x.1, .int .i64 x.2.1, .int .i64 x.2.2]).toArray
theorem inst_at : ∀ (l : List Ins) (j : Nat) (x : Ins), l[j]? = some x → ∀ i, i < 3 → (arrI l)[j * 3 + i]? = [Value.int .i64 x.1, .int .i64 x.2.1, .int .i64 x.2.2][i]? := by
  intro l
  induction l with
  | nil => intro j c h; simp at h
  | cons y l ih =>
    intro j c h i hi
    have e : (arrI (y :: l)).toList = [Value.int .i64 y.1, .int .i64 y.2.1, .int .i64 y.2.2] ++ (arrI l).toList := by simp [arrI]
    have g : ∀ (k : Nat) (m : List Ins), (arrI m)[k]? = (arrI m).toList[k]? := fun k m => by simp
    rw [g, e]
    cases j with
    | zero =>
      simp at h
      subst h
      rw [Nat.zero_mul, Nat.zero_add, List.getElem?_append_left (by simpa using hi)]
    | succ j =>
      have hx : [Value.int .i64 y.1, .int .i64 y.2.1, .int .i64 y.2.2].length = 3 := rfl
      rw [List.getElem?_append_right (by omega), hx, show (j + 1) * 3 + i - 3 = j * 3 + i by omega, ← g]
      exact ih j c (by simpa using h) i hi
theorem ins_blk {W : World} {b : Nat} {l : List Ins} {c : Nat} (h : W.heap[b]? = some (.cells (arrI l) 59 (0, 0))) (hj : ∀ x ∈ l, J64 x.2.1) : InsRow W (.slice (some ⟨b, 0, none⟩) l.length c) l := by
  refine ⟨_, c, rfl, hj, .inr ⟨b, 0, rfl, fun j x hx => ?_⟩⟩
  have A := inst_at l j x hx
  have C : ∀ i, i < 3 → W.cell? ⟨b, j * 3 + i, none⟩ = [Value.int .i64 x.1, .int .i64 x.2.1, .int .i64 x.2.2][i]? := fun i hi => by
    rw [cell_of_row _ _ _ _ 59 (0, 0) h]
    exact A i hi
  rw [Nat.zero_add]
  exact ⟨C 0 (by decide), C 1 (by decide), C 2 (by decide)⟩
theorem word_halt : foundI ⟨#[104, 97, 108, 116]⟩ = 35 ∧ foundB ⟨#[104, 97, 108, 116]⟩ = true := by
  have e : found (wordN 35) = 35 := found_word (by decide)
  have e2 : found ⟨#[104, 97, 108, 116]⟩ = 35 := e
  unfold foundI foundB
  rw [e2]
  exact ⟨rfl, rfl⟩
set_option maxHeartbeats 3200000 in
set_option maxRecDepth 100000 in
theorem awake_any (W : World) (Ad : Nat → Addr) (hO : OpsAt W) (hE : Env8 W Ad) : Calls Tryd.prog 9 #[] W fun e W' => e = .returned (.bool true) ∧ Below W.heap.size W W' := by
  have HO := hid hO
  have HE := hid hE
  have BA : Hid (Below W.heap.size W (W.alloc (.cells (arrI l3) 59))) := bAl _ _
  have D3 := hid (depths_any _ (hO.later BA.out) (.slice (some ⟨W.heap.size, 0, none⟩) 3 3) l3 (ins_blk (heap_alloc_new W _) (by unfold J64; decide)) (by decide))
  have FI : Hid (∀ W', OpsAt W' → Calls Tryd.prog 15 #[.string ⟨#[104, 97, 108, 116]⟩] W' fun e W'' => e = .returned (.tuple #[.int .i64 35, .bool true]) ∧ W'' = W') := fun W' h => by
    have := find_any W' h ⟨#[104, 97, 108, 116]⟩
    rw [word_halt.1, word_halt.2] at this
    exact this
  have NA : Hid (∀ W', OpsAt W' → Calls Tryd.prog 13 #[.int .i64 22] W' fun e W'' => e = .returned (.string ⟨#[108, 111, 97, 100]⟩) ∧ Below W'.heap.size W' W'') := fun W' h => name_any W' h 22
  have AR : Hid (∀ W', OpsAt W' → Calls Tryd.prog 14 #[.int .i64 22] W' fun e W'' => e = .returned (.int .i64 2) ∧ Below W'.heap.size W' W'') := fun W' h => args_any W' h 22
  have hs : ((⟨#[108, 111, 97, 100]⟩ : ByteArray).toList == (⟨#[108, 111, 97, 100]⟩ : ByteArray).toList) = true := beq_self_eq_true _
  clear hO hE
  go_enter Tryd.func9, Tryd.ntmps9
  go_wp2_with fail
  unfold l3 arrI at D3
  simp only [List.flatMap_cons, List.flatMap_nil, List.append_nil, List.cons_append, List.nil_append] at D3
  refine D3.out.mono ?_
  rintro e w1 ⟨r1, q1, rfl, hp1, b1⟩
  obtain ⟨rfl, hr1⟩ := dep3 hp1
  have R1 := hid hr1
  have B1 := hid (BA.out.trans (b1.mono BA.out.size))
  obtain ⟨ra, rc, rfl, -⟩ := hr1
  have BA2 : Hid (Below w1.heap.size w1 (w1.alloc (.cells (arrI l2) 59))) := bAl _ _
  have D2 := hid (depths_any _ ((HO.out.later B1.out).later BA2.out) (.slice (some ⟨w1.heap.size, 0, none⟩) 2 2) l2 (ins_blk (heap_alloc_new w1 _) (by unfold J64; decide)) (by decide))
  clear hp1 b1 D3
  go_wp2_with fail
  unfold l2 arrI at D2
  simp only [List.flatMap_cons, List.flatMap_nil, List.append_nil, List.cons_append, List.nil_append] at D2
  refine D2.out.mono ?_
  rintro e w2 ⟨r2, q2, rfl, hp2, b2⟩
  obtain rfl := dep2 hp2
  have BB2 := hid (BA2.out.trans (b2.mono BA2.out.size))
  have B2 := hid (B1.out.trans (BB2.out.mono B1.out.size))
  have R2 := hid (R1.out.later BB2.out)
  have BA3 : Hid (Below w2.heap.size w2 (w2.alloc (.cells (arrI l2) 59))) := bAl _ _
  have B3 := hid (B2.out.trans (BA3.out.mono B2.out.size))
  have C3 := hid (check_any Ad (w2.alloc (.cells (arrI l2) 59)) (.slice none 0 0) (.slice none 0 0) (.slice (some ⟨w2.heap.size, 0, none⟩) 2 2) [] [] l2 (HO.out.later B3.out) (HE.out.later B3.out) ⟨none, 0, rfl, Nat.le_refl _, .inl rfl⟩ ⟨none, 0, rfl, Nat.le_refl _, .inl rfl⟩ (ins_blk (heap_alloc_new w2 _) (by unfold J64; decide)) (by decide) (by decide) (by decide))
  clear hp2 b2 D2
  go_wp2_with fail
  unfold l2 arrI at C3
  simp only [List.flatMap_cons, List.flatMap_nil, List.append_nil, List.cons_append, List.nil_append] at C3
  refine C3.out.mono ?_
  rintro e w3 ⟨v3, L3, rfl, hk3, ht3, b3⟩
  obtain rfl := chk2 hk3
  have HC3 := hid (top_one ht3)
  obtain ⟨t3, p3, rfl, -⟩ := HC3.out.1.shape
  have BB3 := hid (BA3.out.trans (b3.mono BA3.out.size))
  have B4 := hid (B2.out.trans (BB3.out.mono B2.out.size))
  have R3 := hid (R2.out.later BB3.out)
  have F3 := hid (FI.out _ (HO.out.later B4.out))
  clear hk3 ht3 b3 C3 FI
  go_wp2_with fail
  refine F3.out.mono ?_
  rintro e w4 ⟨rfl, rfl⟩
  clear F3
  have BA5 : Hid (Below w4.heap.size w4 (w4.alloc (.cells (([0, 1, 2, 1] : List Int).map gZ).toArray 3))) := bAl _ _
  have B5 := hid (B4.out.trans (BA5.out.mono B4.out.size))
  have S5 := hid (same_any (w4.alloc (.cells (([0, 1, 2, 1] : List Int).map gZ).toArray 3)) (.slice ra 4 rc) (.slice (some ⟨w4.heap.size, 0, none⟩) 4 4) [0, 1, 2, 1] (R3.out.later BA5.out) (irow_blk (heap_alloc_new w4 _)) (by decide))
  have e12 : (w4.alloc (.cells (([0, 1, 2, 1] : List Int).map gZ).toArray 3)).cell? ⟨0, 0, none⟩ = some (.iface 163 (.pointer (some (Ad 12)))) := (HE.out.later B5.out).cell 12 (by decide) (by decide)
  have E12 := hid e12
  unfold gZ at S5
  simp only [List.map_cons, List.map_nil] at S5
  clear e12
  go_wp2_with fail
  refine S5.out.mono ?_
  rintro e w6 ⟨rfl, b6⟩
  have BB6 := hid (BA5.out.trans (b6.mono BA5.out.size))
  have B6 := hid (B4.out.trans (BB6.out.mono B4.out.size))
  have e12 := seen b6 (Nat.le_refl _) E12.out
  have IS := hid (is_chn Ad (k := 12) (HE.out.later B6.out) (HC3.out.move BB6.out BB6.out.size) (by decide) (by decide))
  clear b6 S5 E12
  go_wp2_with fail
  refine IS.out.mono ?_
  rintro e w7 ⟨rfl, b7⟩
  have B7 := hid (B6.out.trans (b7.mono B6.out.size))
  have N7 := hid (NA.out _ (HO.out.later B7.out))
  clear b7 IS NA e12
  go_wp2_with fail
  refine N7.out.mono ?_
  rintro e w8 ⟨rfl, b8⟩
  have B8 := hid (B7.out.trans (b8.mono B7.out.size))
  have A8 := hid (AR.out _ (HO.out.later B8.out))
  clear b8 N7 AR
  go_wp2_with fail
  refine A8.out.mono ?_
  rintro e w9 ⟨rfl, b9⟩
  have B9 := hid (B8.out.trans (b9.mono B8.out.size))
  clear b9 A8
  go_wp2_with fail
  go_ret
  exact ⟨rfl, B9.out⟩
end Go.Proofs.YtkhhiddemihnbaaDoor.Cw
