/- Code plainly: what is wrong with it; nops ahead of it, and a halt at the end. -/
import Derived.Test.YtkhhiddemihnbaaDoorCwAb
namespace Go.Proofs.YtkhhiddemihnbaaDoor.Cw
structure Cmp where
  s : ByteArray
  wd : Int
  rb : Bool
  d0 : Int
  d1 : Int
  d2 : Int
  d3 : Int
structure Rsc where
  s : ByteArray
  n : Int
def inN (a : Int) (m : Nat) : Bool := decide (0 ≤ a) && decide (a < m)
def rolled (cs : List Cmp) (a : Int) : Bool := match cs[a.toNat]? with
  | some c => c.rb
  | none => false
def widthOf (cs : List Cmp) (a : Int) : Int := match cs[a.toNat]? with
  | some c => c.wd
  | none => 0
def isSet (cs : List Cmp) (a : Int) : Bool := decide (0 ≤ a) && decide (a < 2 ^ min cs.length 32)
/-- Whether A may be what it is. -/
def aOk (cs : List Cmp) (rs : List Rsc) (m : Nat) (x : Ins) : Bool :=
  if x.1 == 1 then true
  else if jmp x.1 then isPl x.2.1 m
  else if x.1 == 25 then inN x.2.1 2
  else if x.1 == 26 || x.1 == 27 then inN x.2.1 rs.length
  else if x.1 == 31 then isSet cs x.2.1
  else if x.1 == 22 || x.1 == 24 then inN x.2.1 cs.length && rolled cs x.2.1
  else if x.1 == 23 || x.1 == 33 || x.1 == 34 then inN x.2.1 cs.length
  else x.2.1 == 0
def aNs (cs : List Cmp) (rs : List Rsc) (m : Nat) (x : Ins) : List Nat := if aOk cs rs m x then [] else if jmp x.1 then [13] else [1]
def bOk (cs : List Cmp) (rs : List Rsc) (m : Nat) (x : Ins) : Bool :=
  if args x.1 < 2 then x.2.2 == 0 else !aOk cs rs m x || (decide (0 ≤ x.2.2) && decide (x.2.2 < widthOf cs x.2.1))
def bNs (cs : List Cmp) (rs : List Rsc) (m : Nat) (x : Ins) : List Nat := if bOk cs rs m x then [] else [1]
def OkI (cs : List Cmp) (rs : List Rsc) (m : Nat) (x : Ins) : Prop := known x.1 = true ∧ aOk cs rs m x = true ∧ bOk cs rs m x = true
/-- What is accepted. -/
def Acc (cs : List Cmp) (rs : List Rsc) (l : List Ins) : Prop := (l.length ≤ 64 ∧ ∀ x ∈ l, OkI cs rs l.length x) ∧ Fine l
theorem OkI.some {cs : List Cmp} {rs : List Rsc} {m : Nat} {x : Ins} (h : OkI cs rs m x) : nowhere m x = false := by
  unfold nowhere
  rw [h.1]
  cases hj : jmp x.1 with
  | false => simp
  | true =>
    have h2 := h.2.1
    unfold aOk at h2
    have h1 : (x.1 == 1) = false := by
      unfold jmp at hj
      simp at hj ⊢
      omega
    rw [h1, hj] at h2
    simp at h2
    simp [h2]
/-- An instruction so many places further. -/
def shift (n : Nat) (x : Ins) : Ins := if jmp x.1 then (x.1, x.2.1 + (n : Int), x.2.2) else x
def more (n : Nat) (l : List Ins) : List Ins := List.replicate n (0, 0, 0) ++ (l.map (shift n) ++ [(35, 0, 0)])
theorem shift_op (n : Nat) (x : Ins) : (shift n x).1 = x.1 := by
  unfold shift
  split <;> rfl
theorem shift_b (n : Nat) (x : Ins) : (shift n x).2.2 = x.2.2 := by
  unfold shift
  split <;> rfl
theorem more_len (n : Nat) (l : List Ins) : (more n l).length = n + l.length + 1 := by
  simp [more]
  omega
theorem more_nop (n : Nat) (l : List Ins) (p : Nat) (h : p < n) : (more n l)[p]? = some (0, 0, 0) := by
  unfold more
  rw [List.getElem?_append_left (by simpa using h), List.getElem?_replicate, if_pos h]
theorem more_at (n : Nat) (l : List Ins) (p : Nat) (x : Ins) (h : l[p]? = some x) : (more n l)[n + p]? = some (shift n x) := by
  unfold more
  have hp := (List.getElem?_eq_some_iff.1 h).1
  rw [List.getElem?_append_right (by simp), List.getElem?_append_left (by simpa using hp)]
  simp [h]
theorem more_end (n : Nat) (l : List Ins) : (more n l)[n + l.length]? = some (35, 0, 0) := by
  unfold more
  rw [List.getElem?_append_right (by simp), List.getElem?_append_right (by simp)]
  simp
def Jok (l : List Ins) : Prop := ∀ x ∈ l, jmp x.1 = true → isPl x.2.1 l.length = true
theorem aOk_free (cs : List Cmp) (rs : List Rsc) (m k : Nat) (x : Ins) (h : jmp x.1 = false) : aOk cs rs m x = aOk cs rs k x := by
  unfold aOk
  rw [h]
  rfl
theorem okI_shift {cs : List Cmp} {rs : List Rsc} {l : List Ins} {n : Nat} {x : Ins} (h : jmp x.1 = true → isPl x.2.1 l.length = true) : OkI cs rs l.length x ↔ OkI cs rs (n + l.length + 1) (shift n x) := by
  unfold OkI
  rw [shift_op]
  cases hj : jmp x.1 with
  | false =>
    have e : shift n x = x := by unfold shift; rw [hj]; rfl
    rw [e, aOk_free cs rs l.length (n + l.length + 1) x hj]
    have eb : bOk cs rs l.length x = bOk cs rs (n + l.length + 1) x := by unfold bOk; rw [aOk_free cs rs l.length (n + l.length + 1) x hj]
    rw [eb]
  | true =>
    have h1 : (x.1 == 1) = false := by
      unfold jmp at hj
      simp at hj ⊢
      omega
    have hp := h hj
    have ha : args x.1 < 2 := by
      have : x.1 = 20 ∨ x.1 = 21 := by
        unfold jmp at hj
        simpa using hj
      rcases this with e | e <;> rw [e] <;> decide
    have e1 : aOk cs rs l.length x = true := by
      unfold aOk
      rw [h1, hj]
      simpa using hp
    have e2 : aOk cs rs (n + l.length + 1) (shift n x) = true := by
      unfold aOk
      rw [shift_op, h1, hj]
      unfold shift
      rw [hj]
      simp [isPl] at hp ⊢
      omega
    have e3 : bOk cs rs l.length x = (x.2.2 == 0) := by unfold bOk; rw [if_pos ha]
    have e4 : bOk cs rs (n + l.length + 1) (shift n x) = (x.2.2 == 0) := by unfold bOk; rw [shift_op, if_pos ha, shift_b]
    rw [e1, e2, e3, e4]
theorem okI_nop (cs : List Cmp) (rs : List Rsc) (m : Nat) : OkI cs rs m (0, 0, 0) := ⟨rfl, rfl, rfl⟩
theorem okI_halt (cs : List Cmp) (rs : List Rsc) (m : Nat) : OkI cs rs m (35, 0, 0) := ⟨rfl, rfl, rfl⟩
theorem ok_more {cs : List Cmp} {rs : List Rsc} {l : List Ins} {n : Nat} (hj : Jok l) : (∀ x ∈ l, OkI cs rs l.length x) ↔ ∀ x ∈ more n l, OkI cs rs (more n l).length x := by
  rw [more_len]
  constructor
  · intro h x hx
    unfold more at hx
    rcases List.mem_append.1 hx with hx | hx
    · obtain ⟨_, rfl⟩ := List.mem_replicate.1 hx
      exact okI_nop _ _ _
    · rcases List.mem_append.1 hx with hx | hx
      · obtain ⟨y, hy, rfl⟩ := List.mem_map.1 hx
        exact (okI_shift (hj y hy)).1 (h y hy)
      · simp at hx
        subst hx
        exact okI_halt _ _ _
  · intro h x hx
    refine (okI_shift (n := n) (hj x hx)).2 (h _ ?_)
    unfold more
    exact List.mem_append_right _ (List.mem_append_left _ (List.mem_map_of_mem hx))
theorem Fine.low {l : List Ins} (h : Fine l) {p : Nat} {m : Int} (hr : Rc l p m) : 0 ≤ m ∧ m ≤ 16 := by
  obtain ⟨k, hk⟩ := hr
  cases k with
  | zero =>
    obtain ⟨_, h2⟩ := hk
    omega
  | succ k =>
    obtain ⟨p', n', x, h1, h2, _, h4⟩ := hk
    have ho := h.2.1 p' n' x ⟨k, h1⟩ h2
    subst h4
    exact ⟨ho.low, ho.2⟩
theorem rc_le {l : List Ins} (h : NoWhere l) {p : Nat} {m : Int} (hr : Rc l p m) : p ≤ l.length := by
  obtain ⟨k, hk⟩ := hr
  cases k with
  | zero =>
    obtain ⟨h1, _⟩ := hk
    omega
  | succ k =>
    obtain ⟨p', n', x, _, h2, h3, _⟩ := hk
    exact fol_le h h2 h3
theorem fol_shift {l : List Ins} {n p q : Nat} {x : Ins} (hp : jmp x.1 = true → isPl x.2.1 l.length = true) (h : q ∈ fol (shift n x) (n + p)) : ∃ r, q = n + r ∧ r ∈ fol x p := by
  unfold fol at h
  rw [shift_op] at h
  rcases List.mem_append.1 h with h | h
  · split at h
    · rename_i hj
      have hp := hp hj
      simp [shift, hj] at h
      simp [isPl] at hp
      refine ⟨x.2.1.toNat, by omega, ?_⟩
      unfold fol
      rw [hj]
      simp
    · simp at h
  · split at h
    · rename_i hj
      simp at h
      refine ⟨p + 1, by omega, ?_⟩
      unfold fol
      rw [hj]
      simp
    · simp at h
theorem fol_shift' {l : List Ins} {n p r : Nat} {x : Ins} (hp : jmp x.1 = true → isPl x.2.1 l.length = true) (h : r ∈ fol x p) : n + r ∈ fol (shift n x) (n + p) := by
  unfold fol at h ⊢
  rw [shift_op]
  rcases List.mem_append.1 h with h | h
  · refine List.mem_append_left _ ?_
    split at h
    · rename_i hj
      have hp := hp hj
      rw [if_pos hj]
      simp [isPl] at hp
      simp at h
      simp [shift, hj]
      omega
    · simp at h
  · refine List.mem_append_right _ ?_
    split at h
    · rename_i ho
      rw [if_pos ho]
      simp at h
      simp
      omega
    · simp at h
theorem nxt_shift (n : Nat) (x : Ins) (m : Int) : nxt (shift n x) m = nxt x m := by unfold nxt; rw [shift_op]
theorem okAt_shift (n : Nat) (x : Ins) (m : Int) : okAt (shift n x) m ↔ okAt x m := by unfold okAt; rw [nxt_shift, shift_op]
theorem rc_head (n : Nat) (l : List Ins) : ∀ q, q ≤ n → Rc (more n l) q 0
  | 0, _ => rc_zero _
  | q + 1, h => (rc_head n l q (by omega)).next (more_nop n l q (by omega)) (by simp [fol, jmp, onw, known])
theorem rc_more {n : Nat} {l : List Ins} (hj : Jok l) : ∀ (k p : Nat) (m : Int), rch l k p m → Rc (more n l) (n + p) m
  | 0, p, m, ⟨h1, h2⟩ => by subst h1; subst h2; exact rc_head n l n (Nat.le_refl _)
  | k + 1, q, m, ⟨p, m', x, h1, h2, h3, h4⟩ => by
    have ih := rc_more (n := n) hj k p m' h1
    have := ih.next (more_at n l p x h2) (fol_shift' (l := l) (fun h => hj x (List.mem_of_getElem? h2) h) h3)
    rw [nxt_shift] at this
    rw [h4]
    exact this
theorem rc_less {n : Nat} {l : List Ins} (hj : Jok l) (hw : NoWhere l) : ∀ (k q : Nat) (m : Int), rch (more n l) k q m → (q < n ∧ m = 0) ∨ ∃ p, q = n + p ∧ Rc l p m
  | 0, q, m, ⟨h1, h2⟩ => by
    subst h1; subst h2
    by_cases h : 0 < n
    · exact .inl ⟨h, rfl⟩
    · exact .inr ⟨0, by omega, rc_zero l⟩
  | k + 1, q, m, ⟨p, m', x, h1, h2, h3, h4⟩ => by
    subst h4
    rcases rc_less hj hw k p m' h1 with ⟨h5, rfl⟩ | ⟨p', rfl, h5⟩
    · rw [more_nop n l p h5] at h2
      obtain rfl := Option.some.inj h2
      have h3 : q = p + 1 := by simpa [fol, jmp, onw, known] using h3
      have e : nxt (0, 0, 0) 0 = 0 := by decide
      rw [e]
      by_cases h : q < n
      · exact .inl ⟨h, rfl⟩
      · exact .inr ⟨0, by omega, rc_zero l⟩
    · have hle := rc_le hw h5
      by_cases hp : p' < l.length
      · have hx : l[p']? = some l[p'] := List.getElem?_eq_getElem hp
        rw [more_at n l p' _ hx] at h2
        obtain rfl := Option.some.inj h2
        obtain ⟨r, rfl, hr⟩ := fol_shift (l := l) (fun h => hj _ (List.mem_of_getElem? hx) h) h3
        rw [nxt_shift]
        exact .inr ⟨r, rfl, h5.next hx hr⟩
      · obtain rfl : p' = l.length := by omega
        rw [more_end] at h2
        obtain rfl := Option.some.inj h2
        simp [fol, jmp, onw, known] at h3
theorem rc_iff {n : Nat} {l : List Ins} (hj : Jok l) (hw : NoWhere l) {q : Nat} {m : Int} (h : Rc (more n l) q m) : (q < n ∧ m = 0) ∨ ∃ p, q = n + p ∧ Rc l p m := by
  obtain ⟨k, hk⟩ := h
  exact rc_less hj hw k q m hk
theorem fine_more {n : Nat} {l : List Ins} (hj : Jok l) (hw : NoWhere l) (hm : NoWhere (more n l)) : Fine l ↔ Fine (more n l) := by
  constructor
  · intro h
    refine ⟨hm, ?_, ?_⟩
    · intro q m x hr hx
      rcases rc_iff hj hw hr with ⟨h5, rfl⟩ | ⟨p, rfl, h5⟩
      · rw [more_nop n l q h5] at hx
        obtain rfl := Option.some.inj hx
        exact ⟨by decide, by decide⟩
      · have hle := rc_le hw h5
        by_cases hp : p < l.length
        · have hy : l[p]? = some l[p] := List.getElem?_eq_getElem hp
          rw [more_at n l p _ hy] at hx
          obtain rfl := Option.some.inj hx
          rw [okAt_shift]
          exact h.2.1 p m _ h5 hy
        · obtain rfl : p = l.length := by omega
          rw [more_end] at hx
          obtain rfl := Option.some.inj hx
          obtain ⟨h6, h7⟩ := h.low h5
          have e : nxt (35, 0, 0) m = m := by
            have e1 : takes 35 = 0 := by decide
            have e2 : lays 35 = 0 := by decide
            unfold nxt
            simp only [e1, e2]
            omega
          exact ⟨by rw [show takes (35, 0, 0).1 = 0 by decide]; exact h6, by rw [e]; exact h7⟩
    · intro q m m' hr hs
      rcases rc_iff hj hw hr with ⟨h5, rfl⟩ | ⟨p, rfl, h5⟩
      · rcases rc_iff hj hw hs with ⟨_, rfl⟩ | ⟨p, h6, _⟩
        · rfl
        · omega
      · rcases rc_iff hj hw hs with ⟨h6, _⟩ | ⟨p', h6, h7⟩
        · omega
        · obtain rfl : p' = p := by omega
          exact h.2.2 p' m m' h5 h7
  · intro h
    refine ⟨hw, ?_, ?_⟩
    · intro p m x ⟨k, hr⟩ hx
      have := h.2.1 (n + p) m _ (rc_more hj k p m hr) (more_at n l p x hx)
      rwa [okAt_shift] at this
    · intro p m m' ⟨k, hr⟩ ⟨k', hs⟩
      exact h.2.2 (n + p) m m' (rc_more hj k p m hr) (rc_more hj k' p m' hs)
theorem acc_more {cs : List Cmp} {rs : List Rsc} {l : List Ins} {n : Nat} (hj : Jok l) (hl : l.length ≤ 30) (hn : n ≤ 20) : Acc cs rs l ↔ Acc cs rs (more n l) := by
  unfold Acc
  rw [← ok_more (n := n) hj]
  have h1 : l.length ≤ 64 := by omega
  have h2 : (more n l).length ≤ 64 := by rw [more_len]; omega
  constructor
  · rintro ⟨⟨_, ha⟩, hf⟩
    have hm := (ok_more (n := n) hj).1 ha
    exact ⟨⟨h2, ha⟩, (fine_more hj (fun x hx => (ha x hx).some) (fun x hx => (hm x hx).some)).1 hf⟩
  · rintro ⟨⟨_, ha⟩, hf⟩
    have hm := (ok_more (n := n) hj).1 ha
    exact ⟨⟨h1, ha⟩, (fine_more hj (fun x hx => (ha x hx).some) (fun x hx => (hm x hx).some)).2 hf⟩
/-- The schema of the statements: four components, the last one only shown (or all of them), two resources. -/
def plainC (b : Bool) : List Cmp := [⟨⟨#[97]⟩, 1, b, 0, 0, 0, 0⟩, ⟨⟨#[98]⟩, 2, b, 0, 0, 0, 0⟩, ⟨⟨#[99]⟩, 3, b, 0, 0, 0, 0⟩, ⟨⟨#[100]⟩, 4, false, 0, 0, 0, 0⟩]
def plainQ : List Rsc := [⟨⟨#[115]⟩, 0⟩, ⟨⟨#[116]⟩, 0⟩]
def reads (x : Ins) : Bool := x.1 == 22 || x.1 == 24
theorem rolled_yes {a : Int} (h : (inN a 4 && rolled (plainC true) a) = true) : 0 ≤ a ∧ a ≤ 2 := by
  simp [inN] at h
  obtain ⟨⟨h1, h2⟩, h3⟩ := h
  refine ⟨h1, ?_⟩
  by_cases e : a = 3
  · subst e
    simp [rolled, plainC] at h3
  · omega
theorem rolled_no (a : Int) : rolled (plainC false) a = false := by
  unfold rolled
  generalize a.toNat = k
  match k with
  | 0 => rfl
  | 1 => rfl
  | 2 => rfl
  | 3 => rfl
  | k + 4 => rfl
theorem width_plain (a : Int) : widthOf (plainC false) a = widthOf (plainC true) a := by
  unfold widthOf
  generalize a.toNat = k
  match k with
  | 0 => rfl
  | 1 => rfl
  | 2 => rfl
  | 3 => rfl
  | k + 4 => rfl
theorem okI_shown (m : Nat) (x : Ins) : OkI (plainC false) plainQ m x ↔ OkI (plainC true) plainQ m x ∧ reads x = false := by
  cases hr : reads x with
  | true =>
    have : aOk (plainC false) plainQ m x = false := by
      have h : x.1 = 22 ∨ x.1 = 24 := by
        unfold reads at hr
        simpa using hr
      unfold aOk
      rcases h with h | h <;> rw [h] <;> simp [rolled_no, jmp]
    unfold OkI
    rw [this]
    simp
  | false =>
    have e : aOk (plainC false) plainQ m x = aOk (plainC true) plainQ m x := by
      unfold aOk
      unfold reads at hr
      rw [hr]
      rfl
    unfold OkI bOk
    rw [e, width_plain]
    simp
theorem shown_reads {m : Nat} {x : Ins} (h : OkI (plainC true) plainQ m x) (hr : reads x = true) : 0 ≤ x.2.1 ∧ x.2.1 ≤ 2 := by
  have h1 : x.1 = 22 ∨ x.1 = 24 := by
    unfold reads at hr
    simpa using hr
  have h2 := h.2.1
  unfold aOk at h2
  rcases h1 with e | e <;> rw [e] at h2 <;> simp [jmp] at h2 <;> exact rolled_yes (by simp [h2]; exact h2.1)
theorem acc_shown {l : List Ins} (h : Acc (plainC true) plainQ l) : Acc (plainC false) plainQ l ↔ l.any reads = false := by
  constructor
  · rintro ⟨⟨_, ha⟩, _⟩
    rw [List.any_eq_false]
    intro x hx
    have := ((okI_shown _ x).1 (ha x hx)).2
    simp [this]
  · intro hr
    refine ⟨⟨h.1.1, fun x hx => (okI_shown _ x).2 ⟨h.1.2 x hx, ?_⟩⟩, h.2⟩
    have := List.any_eq_false.1 hr x hx
    simpa using this
end Go.Proofs.YtkhhiddemihnbaaDoor.Cw
