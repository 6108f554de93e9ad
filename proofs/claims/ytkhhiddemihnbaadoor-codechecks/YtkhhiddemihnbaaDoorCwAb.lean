/- Code plainly: the document's rounds. -/
import Derived.Test.YtkhhiddemihnbaaDoorCwAa
namespace Go.Proofs.YtkhhiddemihnbaaDoor.Cw
structure Bs (l : List Ins) (d : List Int) : Prop where
  len : d.length = l.length + 1
  zero : d[0]? = some 0
  rc : ∀ (p : Nat) (n : Int), d[p]? = some n → n = -1 ∨ (0 ≤ n ∧ Rc l p n)
  hi : ∀ (p : Nat) (n : Int), d[p]? = some n → n ≤ 16
/-- Who goes on from a place comes to what is told. -/
def Cl (l : List Ins) (d : List Int) (p : Nat) : Prop := ∀ n x, d[p]? = some n → 0 ≤ n → l[p]? = some x → okAt x n ∧ ∀ q ∈ fol x p, d[q]? = some (nxt x n)
theorem Bs.lbl {l : List Ins} {d : List Int} (h : Bs l d) (hc : ∀ p, p < l.length → Cl l d p) : Lbl l d :=
  ⟨h.len, h.zero, h.rc, fun p n x h1 h2 h3 => hc p (List.getElem?_eq_some_iff.1 h3).1 n x h1 h2 h3⟩
theorem Bs.set {l : List Ins} {d : List Int} {q : Nat} {m : Int} (h : Bs l d) (hq : d[q]? = some (-1)) (hr : Rc l q m) (hm : 0 ≤ m) (h16 : m ≤ 16) : Bs l (d.set q m) := by
  have hlt := (List.getElem?_eq_some_iff.1 hq).1
  refine ⟨by simpa using h.len, ?_, ?_, ?_⟩
  · have := cd_keeps (q := q) (m := m) h.zero (Int.le_refl _)
    unfold cd at this
    rwa [if_pos hq] at this
  · intro p n hp
    by_cases e : q = p
    · subst e
      rw [List.getElem?_set_self hlt] at hp
      obtain rfl := Option.some.inj hp
      exact .inr ⟨hm, hr⟩
    · rw [List.getElem?_set_ne e] at hp
      exact h.rc p n hp
  · intro p n hp
    by_cases e : q = p
    · subst e
      rw [List.getElem?_set_self hlt] at hp
      obtain rfl := Option.some.inj hp
      exact h16
    · rw [List.getElem?_set_ne e] at hp
      exact h.hi p n hp
theorem bs_begin (l : List Ins) : Bs l (0 :: List.replicate l.length (-1)) := by
  have key : ∀ (p : Nat) (n : Int), (0 :: List.replicate l.length (-1 : Int))[p]? = some n → n = -1 ∨ (p = 0 ∧ n = 0) := by
    intro p n hp
    cases p with
    | zero =>
      obtain rfl := Option.some.inj hp
      exact .inr ⟨rfl, rfl⟩
    | succ p =>
      rw [List.getElem?_cons_succ, List.getElem?_replicate] at hp
      split at hp
      · exact .inl (Option.some.inj hp).symm
      · simp at hp
  refine ⟨by simp, rfl, ?_, ?_⟩
  · intro p n hp
    rcases key p n hp with h | ⟨h1, h2⟩
    · exact .inl h
    · subst h1; subst h2
      exact .inr ⟨Int.le_refl _, rc_zero l⟩
  · intro p n hp
    rcases key p n hp with h | ⟨_, h2⟩ <;> omega
/-- A round amid: at the place i, with what was open at its beginning. -/
structure Rd (l : List Ins) (d : List Int) (c i : Nat) (ag : Bool) : Prop where
  bs : Bs l d
  cl : ag = false → ∀ p, p < i → Cl l d p
  le : open' d ≤ c
  lt : ag = true → open' d < c
/-- A round amid a place's followers. -/
structure Rk (l : List Ins) (d : List Int) (c i : Nat) (ag : Bool) (x : Ins) (n : Int) (f : List Nat) (k : Nat) : Prop where
  rd : Rd l d c i ag
  me : d[i]? = some n
  low : 0 ≤ n
  ins : l[i]? = some x
  ok : okAt x n
  fo : f = fol x i
  fk : ag = false → ∀ j q, j < k → f[j]? = some q → d[q]? = some (nxt x n)
theorem Rd.skip {l : List Ins} {d : List Int} {c i : Nat} {ag : Bool} {n : Int} (h : Rd l d c i ag) (hi : d[i]? = some n) (hn : n < 0) : Rd l d c (i + 1) ag := by
  refine ⟨h.bs, fun ha p hp => ?_, h.le, h.lt⟩
  by_cases e : p = i
  · subst e
    intro n' x h1 h2 h3
    rw [hi] at h1
    obtain rfl := Option.some.inj h1
    omega
  · exact h.cl ha p (by omega)
theorem Rd.enter {l : List Ins} {d : List Int} {c i : Nat} {ag : Bool} {n : Int} {x : Ins} (h : Rd l d c i ag) (hi : d[i]? = some n) (hn : 0 ≤ n) (hx : l[i]? = some x) (ho : okAt x n) : Rk l d c i ag x n (fol x i) 0 :=
  ⟨h, hi, hn, hx, ho, rfl, fun _ j _ hj => absurd hj (by omega)⟩
theorem Rd.bad {l : List Ins} {d : List Int} {c i : Nat} {ag : Bool} {n : Int} {x : Ins} (h : Rd l d c i ag) (hi : d[i]? = some n) (hn : 0 ≤ n) (hx : l[i]? = some x) (ho : ¬ okAt x n) : ¬ Fine l := by
  intro hf
  rcases h.bs.rc i n hi with h1 | ⟨_, h2⟩
  · omega
  · exact ho (hf.2.1 i n x h2 hx)
variable {l : List Ins} {d : List Int} {c i k : Nat} {ag : Bool} {x : Ins} {n : Int} {f : List Nat} {q : Nat}
theorem Rk.rcn (h : Rk l d c i ag x n f k) (hq : f[k]? = some q) : Rc l q (nxt x n) := by
  rcases h.rd.bs.rc i n h.me with h1 | ⟨_, h2⟩
  · have := h.low
    omega
  · exact h2.next h.ins (by rw [← h.fo]; exact List.mem_of_getElem? hq)
theorem Rk.le (h : Rk l d c i ag x n f k) (hw : NoWhere l) (hq : f[k]? = some q) : q ≤ l.length :=
  fol_le hw h.ins (by rw [← h.fo]; exact List.mem_of_getElem? hq)
theorem Rk.has (h : Rk l d c i ag x n f k) (hw : NoWhere l) (hq : f[k]? = some q) : ∃ m, d[q]? = some m ∧ (m < 0 → m = -1) := by
  have h1 := h.le hw hq
  have h2 : q < d.length := by rw [h.rd.bs.len]; omega
  refine ⟨d[q], List.getElem?_eq_getElem h2, fun hm => ?_⟩
  rcases h.rd.bs.rc q _ (List.getElem?_eq_getElem h2) with h3 | ⟨h3, _⟩
  · exact h3
  · omega
theorem Rk.no {m : Int} (h : Rk l d c i ag x n f k) (hq : f[k]? = some q) (hd : d[q]? = some m) (h0 : 0 ≤ m) (hne : m ≠ nxt x n) : ¬ Fine l := by
  intro hf
  rcases h.rd.bs.rc q m hd with h3 | ⟨_, h4⟩
  · omega
  · exact hne (hf.2.2 q _ _ h4 (h.rcn hq))
theorem Rk.same (h : Rk l d c i ag x n f k) (hq : f[k]? = some q) (hd : d[q]? = some (nxt x n)) : Rk l d c i ag x n f (k + 1) := by
  refine ⟨h.rd, h.me, h.low, h.ins, h.ok, h.fo, fun ha j r hj hr => ?_⟩
  by_cases e : j = k
  · subst e
    rw [hq] at hr
    obtain rfl := Option.some.inj hr
    exact hd
  · exact h.fk ha j r (by omega) hr
theorem Rk.new (h : Rk l d c i ag x n f k) (hq : f[k]? = some q) (hd : d[q]? = some (-1)) : Rk l (d.set q (nxt x n)) c i true x n f (k + 1) := by
  have ho := open_set hd h.ok.low
  have hle := h.rd.le
  refine ⟨⟨h.rd.bs.set hd (h.rcn hq) h.ok.low h.ok.2, (fun h => by simp at h), by omega, fun _ => by omega⟩, ?_, h.low, h.ins, h.ok, h.fo, (fun h => by simp at h)⟩
  have := cd_keeps (q := q) (m := nxt x n) h.me h.low
  unfold cd at this
  rwa [if_pos hd] at this
theorem Rk.leave (h : Rk l d c i ag x n f k) (hk : f.length ≤ k) : Rd l d c (i + 1) ag := by
  refine ⟨h.rd.bs, fun ha p hp => ?_, h.rd.le, h.rd.lt⟩
  by_cases e : p = i
  · subst e
    intro n' x' h1 h2 h3
    rw [h.me] at h1
    obtain rfl := Option.some.inj h1
    rw [h.ins] at h3
    obtain rfl := Option.some.inj h3
    refine ⟨h.ok, fun q hq => ?_⟩
    rw [← h.fo] at hq
    obtain ⟨j, hj⟩ := List.getElem?_of_mem hq
    have := (List.getElem?_eq_some_iff.1 hj).1
    exact h.fk ha j q (by omega) hj
  · exact h.rd.cl ha p (by omega)
theorem Rd.lbl {l : List Ins} {d : List Int} {c : Nat} (h : Rd l d c l.length false) : Lbl l d := h.bs.lbl (h.cl rfl)
theorem Bs.begin {l : List Ins} {d : List Int} (h : Bs l d) : Rd l d (open' d) 0 false := ⟨h, fun _ p hp => absurd hp (by omega), Nat.le_refl _, fun h => by simp at h⟩
end Go.Proofs.YtkhhiddemihnbaaDoor.Cw
