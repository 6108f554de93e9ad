/- BadgeExact: the program's badges beside the document's. -/
import Derived.Test.YtiebbedpjogjfaaDoorBdCk
import Derived.Test.YtiebbedpjogjfaaDoorBdBq
import Derived.Test.YtiebbedpjogjfaaDoorBdBt
import Derived.Test.YtiebbedpjogjfaaDoorKh
namespace Go.Proofs.YtiebbedpjogjfaaDoor.Bd
open Go.RowKit Go.Shelf Go.Maps
/-- An error and its number; 0: nil. -/
def Num (Ad : Nat → Addr) (w : World) (v : Value) (k : Nat) : Prop := (k = 0 ∧ v = .nilIface) ∨ (k ≠ 0 ∧ (∃ t q, v = .iface t q) ∧ ∃ d ls, d ≤ 1000 ∧ Tr Ad w.heap.size w d v ls ∧ numOf (ls.map Prod.snd) = (k : Int))
theorem Num.later {Ad : Nat → Addr} {w w' : World} {v : Value} {k : Nat} (h : Num Ad w v k) (hb : Below w.heap.size w w') : Num Ad w' v k := by
  rcases h with h | ⟨h0, h1, d, ls, h2, h3, h4⟩
  · exact .inl h
  · exact .inr ⟨h0, h1, d, ls, h2, Tr.later h3 hb, h4⟩
theorem Num.keep {Ad : Nat → Addr} {w w' : World} {v : Value} {k : Nat} (h : Num Ad w v k) (hb : k ≠ 0 → Below w.heap.size w w') : Num Ad w' v k := by
  rcases h with h | h
  · exact .inl h
  · exact Num.later (.inr h) (hb h.1)
theorem num_err {Ad : Nat → Addr} {w : World} {t : TypeId} {q : Value} {k d : Nat} (h : Err Ad w (.iface t q) k d) (hd : d ≤ 1000) (hk : k ≠ 0) (hn : numOf [k] = (k : Int)) : Num Ad w (.iface t q) k := by
  obtain ⟨ws, hc⟩ := h
  exact .inr ⟨hk, ⟨t, q, rfl⟩, d, _, hd, hc.tr, hn⟩
theorem num_bl {Ad : Nat → Addr} {w : World} {b k : Nat} {s : ByteArray} {t : TypeId} {q : Value} {ls : List (List ByteArray × Nat)} (hr : w.heap[b]? = some (.cells #[.string s, .iface t q] 83 (0, 0))) (hT : Top Ad w.heap.size w 1 (.iface t q) ls) (hk : k ≠ 0) (hn : numOf (ls.map Prod.snd) = (k : Int)) : Num Ad w (.iface 81 (.pointer (some ⟨b, 0, none⟩))) k := by
  refine .inr ⟨hk, ⟨_, _, rfl⟩, 2, _, by omega, Tr.blame 1 b s _ ls (Array.getElem?_eq_some_iff.1 hr).1 (cell_blk hr rfl) (cell_blk hr rfl) hT.tr, ?_⟩
  rw [List.map_map]
  exact hn
theorem number_any (Ad : Nat → Addr) {w : World} {v : Value} {k : Nat} (h : Num Ad w v k) (hE : Env w Ad) :
    Calls Tryd.prog 19 #[v] w fun e w' => e = .returned (.int .i64 (k : Int)) ∧ Below w.heap.size w w' := by
  rcases h with ⟨rfl, rfl⟩ | ⟨-, h1, d, ls, h2, h3, h4⟩
  · exact (number_nil w).mono fun e w' ⟨q1, q2⟩ => ⟨q1, by rw [q2]; exact Below.refl _ _⟩
  · have := number_some Ad v ls d w hE h3 h2 h1
    rw [h4] at this
    exact this
/-- Both badges in one world. -/
structure Ex (W1 : World) (bb ob nb ub : Nat) (n : Int) (l : Prs) (v : Value) (m : Int) (k : Prs) (w : World) : Prop where
  bg : Bg W1.heap.size w bb ob nb n l
  rb : Rb W1.heap.size w ub v m k
  bel : Below W1.heap.size W1 w
section
variable {Ad : Nat → Addr} {W1 w w' : World} {bb ob nb ub : Nat} {n m : Int} {l k : Prs} {v : Value}
theorem Bg.obj (h : Bg W1.heap.size w bb ob nb n l) {x : Nat} (hx : Ft bb ob nb x) : (∃ cs, w.heap[x]? = some (.cells cs 63 (0, 0))) ∨ ∃ es cl, w.heap[x]? = some (.map es cl) := by
  rcases hx with rfl | rfl | rfl
  · exact .inl ⟨_, h.box⟩
  · exact .inr h.m1.obj
  · exact .inr h.m2.obj
theorem Rb.obj {B : Nat} (h : Rb B w ub v m k) {x : Nat} (hx : Fu ub v x) : ∃ cs t z, w.heap[x]? = some (.cells cs t z) ∧ (t = 54 ∨ t = 70) := by
  rcases hx with rfl | hx
  · exact ⟨_, _, _, h.box, .inl rfl⟩
  · rcases h.row.2 with ⟨h1, -⟩ | ⟨g, cap, cur, h1, h2, h3, -⟩
    · rw [h1] at hx; simp [Value.ownBlock] at hx
    · rw [h1] at hx
      obtain rfl : g = x := by simpa [Value.ownBlock] using hx
      exact ⟨_, _, _, h3, .inr rfl⟩
theorem Ex.ap (h : Ex W1 bb ob nb ub n l v m k w) {x : Nat} (hx : Fu ub v x) : ¬ Ft bb ob nb x := fun q => by
  obtain ⟨cs, t, z, e, ht⟩ := h.rb.obj hx
  rcases h.bg.obj q with ⟨cs', e'⟩ | ⟨es, cl, e'⟩
  · rw [e] at e'
    obtain ⟨-, rfl, -⟩ : cs = cs' ∧ t = 63 ∧ z = (0, 0) := by simpa using e'
    revert ht; decide
  · rw [e] at e'; simp at e'
theorem Ex.later (h : Ex W1 bb ob nb ub n l v m k w) (hb : Below w.heap.size w w') : Ex W1 bb ob nb ub n l v m k w' := ⟨h.bg.later hb, h.rb.later hb, h.bel.trans (hb.mono h.bel.size)⟩
theorem Ex.one {n' : Int} {l' : Prs} (h : Ex W1 bb ob nb ub n l v m k w) (hg : Bg W1.heap.size w' bb ob nb n' l') (hs : St (fun x => Ft bb ob nb x) w w') : Ex W1 bb ob nb ub n' l' v m k w' :=
  ⟨hg, h.rb.kept hs fun _ hx => h.ap hx, h.bel.trans (hs.below (B := W1.heap.size) (fun x hx => (h.bg.lt x hx).1) h.bel.size)⟩
theorem Ex.two {v' : Value} {m' : Int} {k' : Prs} (h : Ex W1 bb ob nb ub n l v m k w) (hg : Rb W1.heap.size w' ub v' m' k') (hs : St (fun x => x = ub) w w') : Ex W1 bb ob nb ub n l v' m' k' w' :=
  ⟨h.bg.kept hs fun x hx e => h.ap (.inl e) hx, hg, h.bel.trans (hs.below (B := W1.heap.size) (fun x hx => by rw [hx]; exact h.rb.low) h.bel.size)⟩
/-- A call's own blocks stay. -/
def Kp (w w' : World) : Prop := ∀ (x : Nat) cs t, (t = 31 ∨ t = 29) → w.heap[x]? = some (.cells cs t (0, 0)) → w'.heap[x]? = some (.cells cs t (0, 0))
theorem Kp.of_below (hb : Below w.heap.size w w') : Kp w w' := fun _ _ _ _ h => blk_seen hb (Nat.le_refl _) h
theorem Ex.kp1 (h : Ex W1 bb ob nb ub n l v m k w) (hs : St (fun x => Ft bb ob nb x) w w') : Kp w w' := fun x cs t ht e => hs.at e fun q => by
  rcases h.bg.obj q with ⟨cs', e'⟩ | ⟨es, cl, e'⟩
  · rcases ht with rfl | rfl <;> (rw [e] at e'; simp at e')
  · rw [e] at e'; simp at e'
theorem Ex.kp2 (h : Ex W1 bb ob nb ub n l v m k w) (hs : St (fun x => x = ub) w w') : Kp w w' := fun x cs t ht e => hs.at e fun q => by
  have e' := h.rb.box
  rcases ht with rfl | rfl <;> (rw [← q, e] at e'; simp at e')
theorem Kp.act {x : Nat} {cs : Array Value} (h : Kp w w') (e : w.heap[x]? = some (.cells cs 31 (0, 0))) : w'.heap[x]? = some (.cells cs 31 (0, 0)) := h x cs _ (.inl rfl) e
theorem Kp.ent {x : Nat} {cs : Array Value} (h : Kp w w') (e : w.heap[x]? = some (.cells cs 29 (0, 0))) : w'.heap[x]? = some (.cells cs 29 (0, 0)) := h x cs _ (.inr rfl) e
def giveR (n : Int) (l : Prs) (i g : Int) : Int × Nat × Int × Prs := match num l (i, g) with
  | some _ => (0, 9, n, l)
  | none => if 1073741824 < n then (0, 6, n, l) else (n, 0, n + 1, ins (n, i, g) l)
def pinR (n : Int) (l : Prs) (id i g : Int) : Nat × Prs := if id < 1 ∨ n ≤ id then (1, l) else if (who l id).isSome = true ∨ (num l (i, g)).isSome = true then (9, l) else (0, ins (id, i, g) l)
def dropR (l : Prs) (id : Int) : (Int × Int) × Nat × Prs := match who l id with
  | some x => (x, 0, del id l)
  | none => ((0, 0), 7, l)
def turnR (n : Int) (l : Prs) (next : Int) : Int × Nat × Int := if turnB l next = true then (n, 0, next) else (0, 1, n)
theorem c_give (h : Ex W1 bb ob nb ub n l v m k w) (hE : Env5 W1 Ad) (i g : Int) (hi : I64 i) (hg : I64 g) {r : Int × Nat × Int × Prs} (hr : giveR n l i g = r) :
    Calls Tryd.prog 7 #[.pointer (some ⟨bb, 0, none⟩), .agg #[.int .i64 i, .int .i64 g]] w fun e w' => ∃ u, e = .returned (.tuple #[.int .i64 r.1, u]) ∧ Num Ad w' u r.2.1 ∧ Ex W1 bb ob nb ub r.2.2.1 r.2.2.2 v m k w' ∧ Kp w w' := by
  subst hr
  have E := hE.later h.bel
  unfold giveR
  cases hn : num l (i, g) with
  | some x =>
    refine (give_twice h.bg E i g hi hg hn).mono ?_
    rintro e w' ⟨t, q, rfl, hr, hb⟩
    exact ⟨_, rfl, num_err (k := 9) hr (by omega) (by decide) (by decide), h.later hb, Kp.of_below hb⟩
  | none =>
    simp only
    by_cases hf : 1073741824 < n
    · rw [if_pos hf]
      refine (give_full h.bg E i g hi hg hn hf).mono ?_
      rintro e w' ⟨t, q, rfl, hr, hb⟩
      exact ⟨_, rfl, num_err (k := 6) hr (by omega) (by decide) (by decide), h.later hb, Kp.of_below hb⟩
    · rw [if_neg hf]
      refine (give_ok h.bg i g hi hg hn (by omega)).mono ?_
      rintro e w' ⟨rfl, hr, hs⟩
      exact ⟨_, rfl, .inl ⟨rfl, rfl⟩, h.one hr hs, h.kp1 hs⟩
theorem d_give (h : Ex W1 bb ob nb ub n l v m k w) (hok : okP m k) (hl : k.length ≤ 900) (i g : Int) (hi : I64 i) (hg : I64 g) {r : Int × Nat × Int × Prs} (hr : giveR m k i g = r) :
    Calls Tryd.prog 8 #[.pointer (some ⟨ub, 0, none⟩), .agg #[.int .i64 i, .int .i64 g]] w fun e w' => e = .returned (.tuple #[.int .i64 r.1, .int .i64 (r.2.1 : Int)]) ∧ (∃ v', Ex W1 bb ob nb ub n l v' r.2.2.1 r.2.2.2 w') ∧ Kp w w' ∧ (r.2.1 ≠ 0 → Below w.heap.size w w') := by
  subst hr
  unfold giveR
  cases hn : num k (i, g) with
  | some x =>
    refine (rgive_no h.rb i g hi hg hok.i64 hl 9 (.inl ⟨by rw [hn]; rfl, rfl⟩)).mono ?_
    rintro e w' ⟨rfl, hb⟩
    exact ⟨rfl, ⟨v, h.later hb⟩, Kp.of_below hb, fun _ => hb⟩
  | none =>
    simp only
    by_cases hf : 1073741824 < m
    · rw [if_pos hf]
      refine (rgive_no h.rb i g hi hg hok.i64 hl 6 (.inr ⟨hn, hf, rfl⟩)).mono ?_
      rintro e w' ⟨rfl, hb⟩
      exact ⟨rfl, ⟨v, h.later hb⟩, Kp.of_below hb, fun _ => hb⟩
    · rw [if_neg hf]
      refine (rgive_ok h.rb i g hi hg hok.i64 hl hn hok.next.1 (by omega)).mono ?_
      rintro e w' ⟨rfl, ⟨v', hr⟩, hs⟩
      exact ⟨rfl, ⟨v', h.two hr hs⟩, h.kp2 hs, fun q => absurd rfl q⟩
theorem c_pin (h : Ex W1 bb ob nb ub n l v m k w) (hE : Env5 W1 Ad) (id i g : Int) (hd : I64 id) (hi : I64 i) (hg : I64 g) {r : Nat × Prs} (hr : pinR n l id i g = r) :
    Calls Tryd.prog 9 #[.pointer (some ⟨bb, 0, none⟩), .int .i64 id, .agg #[.int .i64 i, .int .i64 g]] w fun e w' => ∃ u, e = .returned u ∧ Num Ad w' u r.1 ∧ Ex W1 bb ob nb ub n r.2 v m k w' ∧ Kp w w' := by
  subst hr
  have E := hE.later h.bel
  unfold pinR
  by_cases ha : id < 1 ∨ n ≤ id
  · rw [if_pos ha]
    refine (pin_arg h.bg E id i g ha).mono ?_
    rintro e w' ⟨t, q, rfl, hr, hb⟩
    exact ⟨_, rfl, num_err (k := 1) hr (by omega) (by decide) (by decide), h.later hb, Kp.of_below hb⟩
  · rw [if_neg ha]
    have h1 : 1 ≤ id := by omega
    have h2 : id < n := by omega
    cases hw : who l id with
    | none =>
      cases hn : num l (i, g) with
      | none =>
        rw [if_neg (by simp)]
        refine (pin_ok h.bg id i g hi hg h1 h2 hw hn).mono ?_
        rintro e w' ⟨rfl, hr, hs⟩
        exact ⟨_, rfl, .inl ⟨rfl, rfl⟩, h.one hr hs, h.kp1 hs⟩
      | some y =>
        rw [if_pos (by simp)]
        refine (pin_sn (Ad := Ad) h.bg id i g h1 h2 [([bEnt], 9)] (by decide) (by simp) (fun W' hB _ => uno_none hB id hd hw) (fun W' hB hb => unn_top hB (E.later hb) i g hi hg hn)).mono ?_
        rintro e W' ⟨a, s, t, q, rfl, r, T, b⟩
        exact ⟨_, rfl, num_bl (k := 9) r T (by decide) (by decide), h.later b, Kp.of_below b⟩
    | some x =>
      rw [if_pos (by simp)]
      cases hn : num l (i, g) with
      | none =>
        refine (pin_so (Ad := Ad) h.bg id i g h1 h2 [([bNum], 9)] (by decide) (by simp) (fun W' hB hb => uno_top hB (E.later hb) id hd hw) (fun W' hB _ => unn_none hB i g hi hg hn)).mono ?_
        rintro e W' ⟨a, s, t, q, rfl, r, T, b⟩
        exact ⟨_, rfl, num_bl (k := 9) r T (by decide) (by decide), h.later b, Kp.of_below b⟩
      | some y =>
        refine (pin_sb (Ad := Ad) h.bg id i g h1 h2 [([bNum], 9)] [([bEnt], 9)] (by decide) (by simp) (fun W' hB hb => uno_top hB (E.later hb) id hd hw) (fun W' hB hb => unn_top hB (E.later hb) i g hi hg hn)).mono ?_
        rintro e W' ⟨a, s, t, q, rfl, r, T, b⟩
        exact ⟨_, rfl, num_bl (k := 9) r T (by decide) (by decide), h.later b, Kp.of_below b⟩
theorem d_pin (h : Ex W1 bb ob nb ub n l v m k w) (hok : okP m k) (hl : k.length ≤ 900) (id i g : Int) (hi : I64 i) (hg : I64 g) {r : Nat × Prs} (hr : pinR m k id i g = r) :
    Calls Tryd.prog 10 #[.pointer (some ⟨ub, 0, none⟩), .int .i64 id, .agg #[.int .i64 i, .int .i64 g]] w fun e w' => e = .returned (.int .i64 (r.1 : Int)) ∧ (∃ v', Ex W1 bb ob nb ub n l v' m r.2 w') ∧ Kp w w' ∧ (r.1 ≠ 0 → Below w.heap.size w w') := by
  subst hr
  unfold pinR
  by_cases ha : id < 1 ∨ m ≤ id
  · rw [if_pos ha]
    refine (rpin_arg h.rb id i g ha).mono ?_
    rintro e w' ⟨rfl, hb⟩
    exact ⟨rfl, ⟨v, h.later hb⟩, Kp.of_below hb, fun _ => hb⟩
  · rw [if_neg ha]
    by_cases hq : (who k id).isSome = true ∨ (num k (i, g)).isSome = true
    · rw [if_pos hq]
      refine (rpin_twice h.rb id i g hi hg hok.i64 hl (by omega) (by omega) hq).mono ?_
      rintro e w' ⟨rfl, hb⟩
      exact ⟨rfl, ⟨v, h.later hb⟩, Kp.of_below hb, fun _ => hb⟩
    · rw [if_neg hq]
      refine (rpin_ok h.rb id i g hi hg hok.i64 hl (by omega) (by omega) (by cases e : who k id with | none => rfl | some x => exact absurd (.inl (by rw [e]; rfl)) hq) (by cases e : num k (i, g) with | none => rfl | some x => exact absurd (.inr (by rw [e]; rfl)) hq)).mono ?_
      rintro e w' ⟨rfl, ⟨v', hr⟩, hs⟩
      exact ⟨rfl, ⟨v', h.two hr hs⟩, h.kp2 hs, fun q => absurd rfl q⟩
theorem c_drop (h : Ex W1 bb ob nb ub n l v m k w) (hE : Env5 W1 Ad) (id : Int) (hd : I64 id) {r : (Int × Int) × Nat × Prs} (hr : dropR l id = r) :
    Calls Tryd.prog 11 #[.pointer (some ⟨bb, 0, none⟩), .int .i64 id] w fun e w' => ∃ u, e = .returned (.tuple #[.agg #[.int .i64 r.1.1, .int .i64 r.1.2], u]) ∧ Num Ad w' u r.2.1 ∧ Ex W1 bb ob nb ub n r.2.2 v m k w' ∧ Kp w w' := by
  subst hr
  have E := hE.later h.bel
  unfold dropR
  cases hw : who l id with
  | none =>
    refine (drop_none h.bg E id hd hw).mono ?_
    rintro e w' ⟨t, q, rfl, hr, hb⟩
    exact ⟨_, rfl, num_err (k := 7) hr (by omega) (by decide) (by decide), h.later hb, Kp.of_below hb⟩
  | some x =>
    refine (drop_ok h.bg id x.1 x.2 hd hw).mono ?_
    rintro e w' ⟨rfl, hr, hs⟩
    exact ⟨_, rfl, .inl ⟨rfl, rfl⟩, h.one hr hs, h.kp1 hs⟩
theorem d_drop (h : Ex W1 bb ob nb ub n l v m k w) (hl : k.length ≤ 900) (id : Int) {r : (Int × Int) × Nat × Prs} (hr : dropR k id = r) :
    Calls Tryd.prog 12 #[.pointer (some ⟨ub, 0, none⟩), .int .i64 id] w fun e w' => e = .returned (.tuple #[.agg #[.int .i64 r.1.1, .int .i64 r.1.2], .int .i64 (r.2.1 : Int)]) ∧ (∃ v', Ex W1 bb ob nb ub n l v' m r.2.2 w') ∧ Kp w w' ∧ (r.2.1 ≠ 0 → Below w.heap.size w w') := by
  subst hr
  unfold dropR
  cases hw : who k id with
  | none =>
    refine (rdrop_none h.rb id hl hw).mono ?_
    rintro e w' ⟨rfl, hb⟩
    exact ⟨rfl, ⟨v, h.later hb⟩, Kp.of_below hb, fun _ => hb⟩
  | some x =>
    refine (rdrop_some h.rb id hl (i := x.1) (g := x.2) hw).mono ?_
    rintro e w' ⟨rfl, ⟨v', hr⟩, hs⟩
    exact ⟨rfl, ⟨v', h.two hr hs⟩, h.kp2 hs, fun q => absurd rfl q⟩
theorem c_turn (h : Ex W1 bb ob nb ub n l v m k w) (hE : Env5 W1 Ad) (next : Int) {r : Int × Nat × Int} (hr : turnR n l next = r) :
    Calls Tryd.prog 13 #[.pointer (some ⟨bb, 0, none⟩), .int .i64 next] w fun e w' => ∃ u, e = .returned (.tuple #[.int .i64 r.1, u]) ∧ Num Ad w' u r.2.1 ∧ Ex W1 bb ob nb ub r.2.2 l v m k w' ∧ Kp w w' := by
  subst hr
  have E := hE.later h.bel
  unfold turnR
  cases ht : turnB l next with
  | false =>
    rw [if_neg (by simp)]
    refine (turn_arg h.bg E next ht).mono ?_
    rintro e w' ⟨t, q, rfl, hr, hb⟩
    exact ⟨_, rfl, num_err (k := 1) hr (by omega) (by decide) (by decide), h.later hb, Kp.of_below hb⟩
  | true =>
    rw [if_pos rfl]
    refine (turn_ok h.bg next ht).mono ?_
    rintro e w' ⟨rfl, hr, hs⟩
    exact ⟨_, rfl, .inl ⟨rfl, rfl⟩, h.one hr hs, h.kp1 hs⟩
theorem turn_iff (l : Prs) (next : Int) : turnB l next = true ↔ 1 ≤ next ∧ next ≤ 1073741825 ∧ ∀ x ∈ l, x.1 < next := by
  unfold turnB; simp [and_assoc]
theorem d_turn (h : Ex W1 bb ob nb ub n l v m k w) (hok : okP m k) (hl : k.length ≤ 900) (next : Int) {r : Int × Nat × Int} (hr : turnR m k next = r) :
    Calls Tryd.prog 14 #[.pointer (some ⟨ub, 0, none⟩), .int .i64 next] w fun e w' => e = .returned (.tuple #[.int .i64 r.1, .int .i64 (r.2.1 : Int)]) ∧ (∃ v', Ex W1 bb ob nb ub n l v' r.2.2 k w') ∧ Kp w w' ∧ (r.2.1 ≠ 0 → Below w.heap.size w w') := by
  subst hr
  have no : turnB k next = false → Calls Tryd.prog 14 #[.pointer (some ⟨ub, 0, none⟩), .int .i64 next] w fun e w' => e = .returned (.tuple #[.int .i64 0, .int .i64 1]) ∧ Below w.heap.size w w' := by
    intro ht
    by_cases h1 : next < 1 ∨ 1073741825 < next
    · exact rturn_out next h1
    · have ht' : ¬ ∀ x ∈ k, x.1 < next := fun q => by
        have := (turn_iff k next).2 ⟨by omega, by omega, q⟩
        rw [ht] at this; cases this
      cases hk : k.length with
      | zero =>
        exact absurd (fun x hx => by rw [List.length_eq_zero_iff.1 hk] at hx; simp at hx) ht'
      | succ j =>
        obtain ⟨x, hx⟩ := at_lt k j (by omega)
        refine rturn_last h.rb next (by omega) (by omega) hl hk hx (Int.not_lt.1 fun q => ht' fun y hy => ?_)
        obtain ⟨p, hp, rfl⟩ := List.getElem_of_mem hy
        obtain ⟨hjl, rfl⟩ := List.getElem?_eq_some_iff.1 hx
        by_cases e : p = j
        · subst e; exact q
        · have := List.pairwise_iff_getElem.1 hok.rise p j hp hjl (by omega)
          omega
  have yes : turnB k next = true → Calls Tryd.prog 14 #[.pointer (some ⟨ub, 0, none⟩), .int .i64 next] w fun e w' => e = .returned (.tuple #[.int .i64 m, .int .i64 0]) ∧ Rb W1.heap.size w' ub v next k ∧ St (fun x => x = ub) w w' := by
    intro ht
    obtain ⟨h1, h2, h3⟩ := (turn_iff k next).1 ht
    cases hk : k.length with
    | zero =>
      obtain rfl := List.length_eq_zero_iff.1 hk
      exact rturn_none h.rb next h1 h2
    | succ j =>
      obtain ⟨x, hx⟩ := at_lt k j (by omega)
      exact rturn_ok h.rb next h1 h2 hl hk hx (h3 x (List.mem_of_getElem? hx))
  unfold turnR
  cases ht : turnB k next with
  | false =>
    rw [if_neg (by simp)]
    refine (no ht).mono ?_
    rintro e w' ⟨rfl, hb⟩
    exact ⟨rfl, ⟨v, h.later hb⟩, Kp.of_below hb, fun _ => hb⟩
  | true =>
    rw [if_pos rfl]
    refine (yes ht).mono ?_
    rintro e w' ⟨rfl, hr, hs⟩
    exact ⟨rfl, ⟨v, h.two hr hs⟩, h.kp2 hs, fun q => absurd rfl q⟩
end
end Go.Proofs.YtiebbedpjogjfaaDoor.Bd
