/- Code plainly: what operations take and lay, what one comes to, and how much lies there. -/
import Derived.Test.YtkhhiddemihnbaaDoorKq
namespace Go.Proofs.YtkhhiddemihnbaaDoor.Cw
/-- An instruction: operation, A, B. -/
abbrev Ins := Int × Int × Int
def takesT : List Int := [0, 0, 1, 1, 2, 2, 2, 2, 2, 2, 2, 1, 2, 2, 2, 2, 2, 2, 2, 1, 0, 1, 0, 1, 0, 0, 0, 1, 1, 0, 0, 0, 0, 0, 0, 0]
def laysT : List Int := [0, 1, 2, 0, 2, 3, 1, 1, 1, 1, 1, 1, 1, 1, 1, 1, 1, 1, 1, 1, 0, 0, 1, 0, 1, 1, 1, 0, 1, 1, 1, 0, 0, 0, 0, 0]
def argsT : List Int := [0, 1, 0, 0, 0, 0, 0, 0, 0, 0, 0, 0, 0, 0, 0, 0, 0, 0, 0, 0, 1, 1, 2, 2, 1, 1, 1, 1, 0, 0, 0, 1, 0, 1, 1, 0]
def known (op : Int) : Bool := decide (0 ≤ op) && decide (op < 36)
def num (t : List Int) (op : Int) : Int := if known op then t.getD op.toNat 0 else 0
def takes (op : Int) : Int := num takesT op
def lays (op : Int) : Int := num laysT op
def args (op : Int) : Int := num argsT op
theorem getD_low (t : List Int) (h : ∀ x ∈ t, 0 ≤ x) (k : Nat) : 0 ≤ t.getD k 0 := by
  rw [List.getD_eq_getElem?_getD]
  cases hk : t[k]? with
  | none => simp
  | some x => simpa using h x (List.mem_of_getElem? hk)
theorem num_low (t : List Int) (h : ∀ x ∈ t, 0 ≤ x) (op : Int) : 0 ≤ num t op := by
  unfold num
  split
  · exact getD_low t h _
  · exact Int.le_refl _
theorem takes_low (op : Int) : 0 ≤ takes op := num_low _ (by decide) op
theorem lays_low (op : Int) : 0 ≤ lays op := num_low _ (by decide) op
theorem num_high (t : List Int) (m : Int) (hm : 0 ≤ m) (h : ∀ x ∈ t, x ≤ m) (op : Int) : num t op ≤ m := by
  unfold num
  split
  · rw [List.getD_eq_getElem?_getD]
    cases hk : t[op.toNat]? with
    | none => simpa using hm
    | some x => simpa using h x (List.mem_of_getElem? hk)
  · exact hm
theorem takes_high (op : Int) : takes op ≤ 3 := num_high _ 3 (by decide) (by decide) op
theorem lays_high (op : Int) : lays op ≤ 3 := num_high _ 3 (by decide) (by decide) op
def jmp (op : Int) : Bool := op == 20 || op == 21
def onw (op : Int) : Bool := known op && !(op == 20 || op == 35)
def nxt (x : Ins) (n : Int) : Int := n - takes x.1 + lays x.1
def okAt (x : Ins) (n : Int) : Prop := takes x.1 ≤ n ∧ nxt x n ≤ 16
theorem okAt.low {x : Ins} {n : Int} (h : okAt x n) : 0 ≤ nxt x n := by
  have := lays_low x.1
  have := h.1
  unfold nxt
  omega
def fol (x : Ins) (p : Nat) : List Nat := (if jmp x.1 then [x.2.1.toNat] else []) ++ (if onw x.1 then [p + 1] else [])
def isPl (a : Int) (m : Nat) : Bool := decide (0 ≤ a) && decide (a ≤ m)
def nowhere (m : Nat) (x : Ins) : Bool := !known x.1 || (jmp x.1 && !isPl x.2.1 m)
def NoWhere (l : List Ins) : Prop := ∀ x ∈ l, nowhere l.length x = false
/-- Reached in so many steps: a place, with so much on the stack. -/
def rch (l : List Ins) : Nat → Nat → Int → Prop
  | 0, p, n => p = 0 ∧ n = 0
  | k + 1, q, m => ∃ p n x, rch l k p n ∧ l[p]? = some x ∧ q ∈ fol x p ∧ m = nxt x n
def Rc (l : List Ins) (p : Nat) (n : Int) : Prop := ∃ k, rch l k p n
theorem rc_zero (l : List Ins) : Rc l 0 0 := ⟨0, rfl, rfl⟩
theorem Rc.next {l : List Ins} {p q : Nat} {n : Int} {x : Ins} (h : Rc l p n) (hx : l[p]? = some x) (hq : q ∈ fol x p) : Rc l q (nxt x n) := by
  obtain ⟨k, hk⟩ := h
  exact ⟨k + 1, p, n, x, hk, hx, hq, rfl⟩
def Fine (l : List Ins) : Prop := NoWhere l ∧ (∀ p n x, Rc l p n → l[p]? = some x → okAt x n) ∧ ∀ p n m, Rc l p n → Rc l p m → n = m
theorem fol_le {l : List Ins} (h : NoWhere l) {p q : Nat} {x : Ins} (hx : l[p]? = some x) (hq : q ∈ fol x p) : q ≤ l.length := by
  have hp : p < l.length := (List.getElem?_eq_some_iff.1 hx).1
  have hn := h x (List.mem_of_getElem? hx)
  unfold fol at hq
  rcases List.mem_append.1 hq with hq | hq
  · split at hq
    · rename_i hj
      simp [nowhere, hj, isPl] at hn
      simp at hq
      omega
    · simp at hq
  · split at hq
    · simp at hq
      omega
    · simp at hq
/-- Depths that fit: what is told is reached, and who goes on comes to what is told. -/
structure Lbl (l : List Ins) (d : List Int) : Prop where
  len : d.length = l.length + 1
  zero : d[0]? = some 0
  rc : ∀ (p : Nat) (n : Int), d[p]? = some n → n = -1 ∨ (0 ≤ n ∧ Rc l p n)
  on : ∀ (p : Nat) (n : Int) (x : Ins), d[p]? = some n → 0 ≤ n → l[p]? = some x → okAt x n ∧ ∀ q ∈ fol x p, d[q]? = some (nxt x n)
theorem Lbl.at {l : List Ins} {d : List Int} (h : Lbl l d) : ∀ (k p : Nat) (n : Int), rch l k p n → d[p]? = some n ∧ 0 ≤ n
  | 0, p, n, ⟨h1, h2⟩ => by subst h1; subst h2; exact ⟨h.zero, Int.le_refl _⟩
  | k + 1, q, m, ⟨p, n, x, hr, hx, hq, hm⟩ => by
    obtain ⟨h1, h2⟩ := Lbl.at h k p n hr
    obtain ⟨h3, h4⟩ := h.on p n x h1 h2 hx
    subst hm
    exact ⟨h4 q hq, h3.low⟩
theorem Lbl.rcAt {l : List Ins} {d : List Int} (h : Lbl l d) {p : Nat} {n : Int} (hr : Rc l p n) : d[p]? = some n ∧ 0 ≤ n := by
  obtain ⟨k, hk⟩ := hr
  exact h.at k p n hk
theorem Lbl.fine {l : List Ins} {d : List Int} (h : Lbl l d) (hn : NoWhere l) : Fine l := by
  refine ⟨hn, ?_, ?_⟩
  · intro p n x hr hx
    obtain ⟨h1, h2⟩ := h.rcAt hr
    exact (h.on p n x h1 h2 hx).1
  · intro p n m hr hs
    have h1 := (h.rcAt hr).1
    have h2 := (h.rcAt hs).1
    rw [h1] at h2
    exact Option.some.inj h2
theorem Lbl.uniq {l : List Ins} {d e : List Int} (h : Lbl l d) (g : Lbl l e) : d = e := by
  apply List.ext_getElem?
  intro p
  by_cases hp : p < l.length + 1
  · have hd : p < d.length := by rw [h.len]; exact hp
    have he : p < e.length := by rw [g.len]; exact hp
    rw [List.getElem?_eq_getElem hd, List.getElem?_eq_getElem he]
    congr 1
    have h1 := h.rc p d[p] (List.getElem?_eq_getElem hd)
    have g1 := g.rc p e[p] (List.getElem?_eq_getElem he)
    rcases h1 with h1 | ⟨h1, h2⟩
    · rcases g1 with g1 | ⟨g1, g2⟩
      · rw [h1, g1]
      · have := (h.rcAt g2).1
        rw [List.getElem?_eq_getElem hd] at this
        exact Option.some.inj this
    · have := (g.rcAt h2).1
      rw [List.getElem?_eq_getElem he] at this
      exact (Option.some.inj this).symm
  · rw [List.getElem?_eq_none (by rw [h.len]; omega), List.getElem?_eq_none (by rw [g.len]; omega)]
/-- How many places aren't told yet. -/
def open' (d : List Int) : Nat := d.countP (fun n => n == -1)
theorem open_set {d : List Int} {q : Nat} {m : Int} (hq : d[q]? = some (-1)) (hm : 0 ≤ m) : open' (d.set q m) + 1 = open' d := by
  unfold open'
  obtain ⟨h1, h2⟩ := List.getElem?_eq_some_iff.1 hq
  have hb : (m == -1) = false := by simp; omega
  rw [List.countP_set h1]
  simp only [h2, hb]
  have : 0 < List.countP (fun n => n == -1) d := List.countP_pos_iff.2 ⟨-1, by rw [← h2]; exact List.getElem_mem h1, by decide⟩
  simp
  omega
/-- The walk amid: what is told is reached; who isn't among E has gone on. -/
structure Wk (l : List Ins) (d : List Int) (o E : List Nat) : Prop where
  len : d.length = l.length + 1
  zero : d[0]? = some 0
  rc : ∀ (p : Nat) (n : Int), d[p]? = some n → n = -1 ∨ (0 ≤ n ∧ Rc l p n)
  hi : ∀ (p : Nat) (n : Int), d[p]? = some n → n ≤ 16
  op : ∀ q ∈ o, ∃ n, d[q]? = some n ∧ 0 ≤ n
  on : ∀ (p : Nat) (n : Int) (x : Ins), p ∉ E → d[p]? = some n → 0 ≤ n → l[p]? = some x → okAt x n ∧ ∀ q ∈ fol x p, d[q]? = some (nxt x n)
theorem Wk.lbl {l : List Ins} {d : List Int} (h : Wk l d [] []) : Lbl l d := ⟨h.len, h.zero, h.rc, fun p n x => h.on p n x (by simp)⟩
def cd (d : List Int) (q : Nat) (m : Int) : List Int := if d[q]? = some (-1) then d.set q m else d
def co (d : List Int) (o : List Nat) (q : Nat) : List Nat := if d[q]? = some (-1) then o ++ [q] else o
def cb (d : List Int) (q : Nat) (m : Int) : Bool := (cd d q m)[q]? == some m
theorem cd_keeps {d : List Int} {q r : Nat} {m n : Int} (h : d[r]? = some n) (hn : 0 ≤ n) : (cd d q m)[r]? = some n := by
  unfold cd
  split
  · rename_i hq
    rw [List.getElem?_set]
    split
    · rename_i e
      subst e
      rw [hq] at h
      have := Option.some.inj h
      omega
    · exact h
  · exact h
theorem cd_len (d : List Int) (q : Nat) (m : Int) : (cd d q m).length = d.length := by
  unfold cd
  split <;> simp
theorem cd_self {d : List Int} {q : Nat} {m : Int} (h : d[q]? = some (-1)) : (cd d q m)[q]? = some m := by
  unfold cd
  rw [if_pos h, List.getElem?_set_self]
  exact (List.getElem?_eq_some_iff.1 h).1
theorem cb_yes {d : List Int} {q : Nat} {m : Int} (h : cb d q m = true) : (cd d q m)[q]? = some m := by
  unfold cb at h
  simpa using h
theorem Wk.come {l : List Ins} {d : List Int} {o E : List Nat} (h : Wk l d o E) {q : Nat} {m : Int} (hr : Rc l q m) (hm : 0 ≤ m) (h16 : m ≤ 16) : Wk l (cd d q m) (co d o q) (co d E q) := by
  by_cases hq : d[q]? = some (-1)
  · have e1 : cd d q m = d.set q m := if_pos hq
    have e2 : co d o q = o ++ [q] := if_pos hq
    have e3 : co d E q = E ++ [q] := if_pos hq
    have hql := (List.getElem?_eq_some_iff.1 hq).1
    refine ⟨by rw [cd_len, h.len], cd_keeps h.zero (Int.le_refl _), ?_, ?_, ?_, ?_⟩
    · intro p n hp
      by_cases e : q = p
      · subst e
        rw [cd_self hq] at hp
        obtain rfl := Option.some.inj hp
        exact .inr ⟨hm, hr⟩
      · rw [e1, List.getElem?_set_ne e] at hp
        exact h.rc p n hp
    · intro p n hp
      by_cases e : q = p
      · subst e
        rw [cd_self hq] at hp
        obtain rfl := Option.some.inj hp
        exact h16
      · rw [e1, List.getElem?_set_ne e] at hp
        exact h.hi p n hp
    · intro r hro
      rw [e2] at hro
      rcases List.mem_append.1 hro with hro | hro
      · obtain ⟨n, h1, h2⟩ := h.op r hro
        exact ⟨n, cd_keeps h1 h2, h2⟩
      · simp at hro
        subst hro
        exact ⟨m, cd_self hq, hm⟩
    · intro p n x hpE hp hn hx
      rw [e3] at hpE
      have e : q ≠ p := fun e => hpE (by simp [e])
      rw [e1, List.getElem?_set_ne e] at hp
      obtain ⟨h1, h2⟩ := h.on p n x (fun hh => hpE (by simp [hh])) hp hn hx
      exact ⟨h1, fun r hr' => cd_keeps (h2 r hr') h1.low⟩
  · have e1 : cd d q m = d := if_neg hq
    have e2 : co d o q = o := if_neg hq
    have e3 : co d E q = E := if_neg hq
    rw [e1, e2, e3]
    exact h
theorem come_no {l : List Ins} {d : List Int} {o E : List Nat} (h : Wk l d o E) {q : Nat} {m : Int} (hr : Rc l q m) (hql : q ≤ l.length) (hb : cb d q m = false) : ¬ Fine l := by
  intro hf
  by_cases hq : d[q]? = some (-1)
  · have := cd_self (m := m) hq
    unfold cb at hb
    rw [this] at hb
    simp at hb
  · have e1 : cd d q m = d := if_neg hq
    have hlt : q < d.length := by rw [h.len]; omega
    have hg := List.getElem?_eq_getElem hlt
    unfold cb at hb
    rw [e1, hg] at hb
    rcases h.rc q _ hg with h1 | ⟨h1, h2⟩
    · rw [h1] at hg
      exact hq hg
    · have := hf.2.2 q _ _ h2 hr
      rw [this] at hb
      simp at hb
theorem come_meas {d : List Int} {o : List Nat} {q : Nat} {m : Int} (hm : 0 ≤ m) : 2 * open' (cd d q m) + (co d o q).length ≤ 2 * open' d + o.length := by
  unfold cd co
  split
  · rename_i hq
    have := open_set hq hm
    simp
    omega
  · exact Nat.le_refl _
theorem wk_begin (l : List Ins) : Wk l (cd (List.replicate (l.length + 1) (-1)) 0 0) (co (List.replicate (l.length + 1) (-1)) [] 0) (co (List.replicate (l.length + 1) (-1)) [] 0) := by
  have h0 : (List.replicate (l.length + 1) (-1 : Int))[0]? = some (-1) := by simp [List.replicate_succ]
  have e1 : cd (List.replicate (l.length + 1) (-1)) 0 0 = (List.replicate (l.length + 1) (-1)).set 0 0 := if_pos h0
  have e2 : co (List.replicate (l.length + 1) (-1)) [] 0 = [0] := if_pos h0
  rw [e2]
  have hs := cd_self (m := 0) h0
  have key : ∀ (p : Nat) (n : Int), (cd (List.replicate (l.length + 1) (-1)) 0 0)[p]? = some n → n = -1 ∨ (p = 0 ∧ n = 0) := by
    intro p n hp
    by_cases e : 0 = p
    · subst e
      rw [hs] at hp
      exact .inr ⟨rfl, (Option.some.inj hp).symm⟩
    · rw [e1, List.getElem?_set_ne e, List.getElem?_replicate] at hp
      split at hp
      · exact .inl (Option.some.inj hp).symm
      · simp at hp
  refine ⟨by rw [cd_len]; simp, hs, ?_, ?_, ?_, ?_⟩
  · intro p n hp
    rcases key p n hp with h | ⟨h1, h2⟩
    · exact .inl h
    · subst h1; subst h2
      exact .inr ⟨Int.le_refl _, rc_zero l⟩
  · intro p n hp
    rcases key p n hp with h | ⟨_, h2⟩ <;> omega
  · intro q hq
    simp at hq
    subst hq
    exact ⟨0, hs, Int.le_refl _⟩
  · intro p n x hpE hp hn _
    rcases key p n hp with h | ⟨h1, _⟩
    · omega
    · subst h1
      simp at hpE
end Go.Proofs.YtkhhiddemihnbaaDoor.Cw
