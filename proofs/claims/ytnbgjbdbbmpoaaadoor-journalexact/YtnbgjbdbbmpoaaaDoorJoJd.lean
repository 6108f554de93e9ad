/- A journal in memory; New, Len, above, Mark. -/
import Derived.Test.YtnbgjbdbbmpoaaaDoorJoJc
namespace Go.Proofs.YtnbgjbdbbmpoaaaDoor.Jo
open Go.RowKit Go.Shelf Go.Maps
theorem _root_.Go.Proofs.YtnbgjbdbbmpoaaaDoor.Env8.k1 {w : World} {Ad : Nat → Addr} (h : Env8 w Ad) : w.cell? ⟨0, 0, none⟩ = some (.iface 130 (.pointer (some (Ad 1)))) := h.cell 1 (by decide) (by decide)
theorem _root_.Go.Proofs.YtnbgjbdbbmpoaaaDoor.Env8.k2 {w : World} {Ad : Nat → Addr} (h : Env8 w Ad) : w.cell? ⟨1, 0, none⟩ = some (.iface 130 (.pointer (some (Ad 2)))) := h.cell 2 (by decide) (by decide)
theorem _root_.Go.Proofs.YtnbgjbdbbmpoaaaDoor.Env8.k6 {w : World} {Ad : Nat → Addr} (h : Env8 w Ad) : w.cell? ⟨4, 0, none⟩ = some (.iface 130 (.pointer (some (Ad 6)))) := h.cell 6 (by decide) (by decide)
theorem _root_.Go.Proofs.YtnbgjbdbbmpoaaaDoor.Env8.k8 {w : World} {Ad : Nat → Addr} (h : Env8 w Ad) : w.cell? ⟨2, 0, none⟩ = some (.iface 130 (.pointer (some (Ad 8)))) := h.cell 8 (by decide) (by decide)
theorem _root_.Go.Proofs.YtnbgjbdbbmpoaaaDoor.Env8.k16 {w : World} {Ad : Nat → Addr} (h : Env8 w Ad) : w.cell? ⟨3, 0, none⟩ = some (.iface 130 (.pointer (some (Ad 16)))) := h.cell 16 (by decide) (by decide)
/-- A sentinel inside Blames, each of them a block of its own. -/
def ErrN (Ad : Nat → Addr) (W : World) (k : Nat) : Nat → Value → Prop
  | 0, v => v = .iface 130 (.pointer (some (Ad k))) ∧ 1 ≤ k ∧ k ≤ 18
  | d + 1, v => ∃ b s i, v = .iface 88 (.pointer (some ⟨b, 0, none⟩)) ∧ W.heap[b]? = some (.cells #[.string s, i] 90 (0, 0)) ∧ ErrN Ad W k d i
def Err (Ad : Nat → Addr) (W : World) (v : Value) (k d : Nat) : Prop := ErrN Ad W k d v
theorem ErrN.kept {Ad : Nat → Addr} {W W' : World} {k : Nat} {T : Nat → Prop} (hs : St T W W') (hT : ∀ b cs, W.heap[b]? = some (.cells cs 90 (0, 0)) → ¬ T b) : ∀ (d : Nat) (v : Value), ErrN Ad W k d v → ErrN Ad W' k d v
  | 0, _, h => h
  | d + 1, _, ⟨b, s, i, h1, h2, h3⟩ => ⟨b, s, i, h1, hs.at h2 (hT b _ h2), ErrN.kept hs hT d i h3⟩
theorem Err.kept {Ad : Nat → Addr} {W W' : World} {v : Value} {k d : Nat} {T : Nat → Prop} (h : Err Ad W v k d) (hs : St T W W') (hT : ∀ b cs, W.heap[b]? = some (.cells cs 90 (0, 0)) → ¬ T b) : Err Ad W' v k d := ErrN.kept hs hT d v h
theorem Err.later {Ad : Nat → Addr} {W W' : World} {v : Value} {k d : Nat} (h : Err Ad W v k d) (hb : Below W.heap.size W W') : Err Ad W' v k d := h.kept (T := fun _ => False) (St.of_below hb) fun _ _ _ q => q
theorem err_leaf (Ad : Nat → Addr) (W : World) (k : Nat) (hk : 1 ≤ k ∧ k ≤ 18) : Err Ad W (.iface 130 (.pointer (some (Ad k)))) k 0 := ⟨rfl, hk.1, hk.2⟩
theorem ErrN.chn {Ad : Nat → Addr} {W : World} {k : Nat} : ∀ (d : Nat) (v : Value), ErrN Ad W k d v → ∃ ws, Chn Ad W.heap.size W d v (ws, k)
  | 0, _, h => ⟨[], h.1, h.2.1, h.2.2, Nat.le_refl _⟩
  | d + 1, _, ⟨b, s, i, h1, h2, h3⟩ => by
    obtain ⟨ws, h⟩ := ErrN.chn d i h3
    exact ⟨s :: ws, ⟨b, i, h1, (Array.getElem?_eq_some_iff.1 h2).1, cell_blk h2 rfl, cell_blk h2 rfl, h.1⟩, h.2.1, h.2.2.1, by have := h.2.2.2; simp at this ⊢; omega⟩
theorem Err.chn {Ad : Nat → Addr} {W : World} {v : Value} {k d : Nat} (h : Err Ad W v k d) : ∃ ws, Chn Ad W.heap.size W d v (ws, k) := ErrN.chn d v h
theorem at_err (Ad : Nat → Addr) (s : ByteArray) (v : Value) (k d : Nat) (w : World) (h : Err Ad w v k d) :
    Calls Tryd.prog 28 #[.string s, v] w fun e w' => ∃ t q, e = .returned (.iface t q) ∧ Err Ad w' (.iface t q) k (d + 1) ∧ Below w.heap.size w w' := by
  obtain ⟨ws, hc⟩ := h.chn
  obtain ⟨t, q, rfl, _⟩ := hc.1.shape
  refine (at_some s t q w).mono ?_
  rintro e w' ⟨rfl, rfl⟩
  have hb := bAl w (.cells #[.string s, .iface t q] 90)
  exact ⟨_, _, rfl, ⟨w.heap.size, s, _, rfl, heap_alloc_new w _, h.later hb⟩, hb⟩
theorem is_err (Ad : Nat → Addr) {W : World} {v : Value} {p k d : Nat} (hE : Env8 W Ad) (h : Err Ad W v p d) (hp : p ∈ eight) (hk : k ∈ eight) :
    Calls Tryd.prog 11 #[v, .iface 130 (.pointer (some (Ad k)))] W fun e W' => e = .returned (.bool (decide (p = k))) ∧ Below W.heap.size W W' := by
  obtain ⟨ws, h⟩ := h.chn
  obtain ⟨t, q, rfl, -⟩ := h.1.shape
  refine is_by Ad k t q _ W ((eis_gen Ad W.heap.size k W ws _ p (hE.sen p hp (eight_le p hp).2) (hE.sen k hk (eight_le k hk).2) (hE.same hp hk) h.1).mono ?_)
  rintro e w' ⟨rfl, rfl⟩
  exact ⟨rfl, Below.refl _ _⟩
/-- How many entries there are. -/
def tot (st : List Sx) : Nat := (st.map fun s => s.l.length).sum
theorem tot_snoc (st : List Sx) (s : Sx) : tot (st ++ [s]) = tot st + s.l.length := by simp [tot]
theorem tot_app (a b : List Sx) : tot (a ++ b) = tot a + tot b := by simp [tot]
/-- A journal in memory. -/
structure Jn (B : Nat) (W : World) (jb : Nat) (sv mv : Value) (most : Nat) (st : List Sx) : Prop where
  box : W.heap[jb]? = some (.cells #[.int .i64 (most : Int), .int .i64 (tot st : Int), sv, mv] 68 (0, 0))
  row : Lie W 75 2 sv st.length (sCells st)
  ents : ∀ s ∈ st, Us B W s.ev s.l
  apart : (st.filterMap fun s => s.ev.ownBlock).Nodup
  told : ∀ a s, st = a ++ [s] → ∃ mb, mv = .map (some mb) ∧ Mt W mb s.l
  up : (st.map Sx.f).Pairwise (· < ·)
  rng : ∀ s ∈ st, 0 ≤ s.f ∧ s.f ≤ 1073741824
  good : ∀ s ∈ st, ∀ u ∈ s.l, u.ok ∧ 1 ≤ u.k ∧ u.k ≤ 9 ∧ u.ps.length ≤ 1000
  few : tot st ≤ most ∧ most ≤ 65536
  slow : ∀ k, sv.ownBlock = some k → B ≤ k
  mlow : ∀ k, mv = .map (some k) → B ≤ k
/-- All blocks of a journal. -/
def Fj (jb : Nat) (sv mv : Value) (st : List Sx) (k : Nat) : Prop := k = jb ∨ sv.ownBlock = some k ∨ mv = .map (some k) ∨ ∃ s ∈ st, s.ev.ownBlock = some k ∨ ∃ u ∈ s.l, u.pv.ownBlock = some k
section
variable {B : Nat} {W W' : World} {jb : Nat} {sv mv : Value} {most : Nat} {st : List Sx}
theorem Us.kept {v : Value} {l : List Ue} {T : Nat → Prop} (h : Us B W v l) (hs : St T W W') (hn : ∀ k, v.ownBlock = some k → ¬ T k) (hp : ∀ u ∈ l, ∀ k, u.pv.ownBlock = some k → ¬ T k) : Us B W' v l := by
  refine ⟨⟨h.1.1, h.1.2.elim .inl fun ⟨g, cap, cur, h1, h2, h3, h4⟩ => .inr ⟨g, cap, cur, h1, h2, ?_, h4⟩⟩, fun u hu => (h.2 u hu).kept hs (hp u hu)⟩
  exact hs.at h3 (hn g (by rw [h1]; rfl))
theorem Us.later {v : Value} {l : List Ue} (h : Us B W v l) (hb : Below W.heap.size W W') : Us B W' v l := h.kept (T := fun _ => False) (St.of_below hb) (fun _ _ q => q) fun _ _ _ _ q => q
theorem Us.typ {v : Value} {l : List Ue} (h : Us B W v l) {k : Nat} (hk : v.ownBlock = some k) : B ≤ k ∧ ∃ cur, W.heap[k]? = some (.cells cur 38 (0, 0)) := by
  rcases h.1.2 with ⟨h1, -⟩ | ⟨g, cap, cur, h1, h2, h3, -⟩
  · rw [h1] at hk; cases hk
  · rw [h1] at hk
    obtain rfl : g = k := by simpa [Value.ownBlock] using hk
    exact ⟨h2, cur, h3⟩
theorem Us.form {v : Value} {l : List Ue} (h : Us B W v l) : ∃ a c, v = .slice a l.length c := own_slice h.1
theorem us_nil (B : Nat) (W : World) : Us B W (.slice none 0 0) [] := ⟨World.ownsRow_nil W _ _ _, fun _ h => by simp at h⟩
theorem Jn.kept {T : Nat → Prop} (h : Jn B W jb sv mv most st) (hs : St T W W') (hn : ∀ k, Fj jb sv mv st k → ¬ T k) : Jn B W' jb sv mv most st := by
  refine ⟨hs.at h.box (hn _ (.inl rfl)), h.row.kept hs fun k hk => hn k (.inr (.inl hk)), fun s hm => (h.ents s hm).kept hs (fun k hk => hn k (.inr (.inr (.inr ⟨s, hm, .inl hk⟩)))) fun u hu k hk => hn k (.inr (.inr (.inr ⟨s, hm, .inr ⟨u, hu, hk⟩⟩))), h.apart, fun a s e => ?_, h.up, h.rng, h.good, h.few, h.slow, h.mlow⟩
  obtain ⟨mb, e1, e2⟩ := h.told a s e
  exact ⟨mb, e1, e2.kept hs (hn mb (.inr (.inr (.inl e1))))⟩
theorem Jn.later (h : Jn B W jb sv mv most st) (hb : Below W.heap.size W W') : Jn B W' jb sv mv most st := h.kept (T := fun _ => False) (St.of_below hb) fun _ _ q => q
theorem Jn.c0 (h : Jn B W jb sv mv most st) : W.cell? ⟨jb, 0, none⟩ = some (.int .i64 (most : Int)) := cell_blk h.box rfl
theorem Jn.c1 (h : Jn B W jb sv mv most st) : W.cell? ⟨jb, 1, none⟩ = some (.int .i64 (tot st : Int)) := cell_blk h.box rfl
theorem Jn.c2 (h : Jn B W jb sv mv most st) : W.cell? ⟨jb, 2, none⟩ = some sv := cell_blk h.box rfl
theorem Jn.c3 (h : Jn B W jb sv mv most st) : W.cell? ⟨jb, 3, none⟩ = some mv := cell_blk h.box rfl
theorem rise_len : ∀ (l : List Int) (lo : Int), l.Pairwise (· < ·) → (∀ x ∈ l, lo ≤ x ∧ x ≤ 1073741824) → lo ≤ 1073741825 → (l.length : Int) ≤ 1073741825 - lo
  | [], lo, _, _, h => by simp; omega
  | x :: l, lo, h1, h2, h3 => by
    obtain ⟨a, b⟩ := List.pairwise_cons.1 h1
    have hx := h2 x (by simp)
    have := rise_len l (x + 1) b (fun y hy => ⟨by have := a y hy; omega, (h2 y (by simp [hy])).2⟩) (by omega)
    simp only [List.length_cons, Int.natCast_add, Int.natCast_one]
    omega
theorem Jn.len (h : Jn B W jb sv mv most st) : st.length ≤ 1073741825 := by
  have := rise_len (st.map Sx.f) 0 h.up (fun x hx => by
    obtain ⟨s, hs, rfl⟩ := List.mem_map.1 hx
    exact h.rng s hs) (by omega)
  simp at this
  omega
theorem Jn.ne_row (h : Jn B W jb sv mv most st) {k : Nat} (hk : sv.ownBlock = some k) : k ≠ jb := by
  obtain ⟨cur, hc⟩ := h.row.typ hk
  rintro rfl
  rw [h.box] at hc
  simp at hc
theorem Jn.lt (h : Jn B W jb sv mv most st) : jb < W.heap.size := (Array.getElem?_eq_some_iff.1 h.box).1
set_option maxHeartbeats 800000 in
theorem new_bad {Ad : Nat → Addr} (hE : Env8 W Ad) (m : Int) (hm : m < 1 ∨ 65536 < m) :
    Calls Tryd.prog 9 #[.int .i64 m] W fun e W' => ∃ t q, e = .returned (.tuple #[.pointer none, .iface t q]) ∧ Err Ad W' (.iface t q) 1 1 ∧ Below W.heap.size W W' := by
  have c1 := hE.k1
  have AC := hid (fun str => at_err Ad str _ 1 0 W (err_leaf Ad W 1 (by decide)))
  clear hE
  by_cases h0 : m < 1
  · clear hm
    go_enter Tryd.func9, Tryd.ntmps9
    go_wp2_with fail
    refine (AC.out _).mono ?_
    rintro e w1 ⟨t, q, rfl, hv, hb⟩
    have HV := hid hv
    have HB := hid hb
    clear hv hb AC
    go_wp2_with fail
    go_ret2
    exact ⟨t, q, rfl, HV.out, HB.out⟩
  · have h1 : 65536 < m := by omega
    clear hm
    go_enter Tryd.func9, Tryd.ntmps9
    go_wp2_with fail
    refine (AC.out _).mono ?_
    rintro e w1 ⟨t, q, rfl, hv, hb⟩
    have HV := hid hv
    have HB := hid hb
    clear hv hb AC
    go_wp2_with fail
    go_ret2
    exact ⟨t, q, rfl, HV.out, HB.out⟩
theorem jn_new (B : Nat) (W : World) (most : Nat) (h2 : most ≤ 65536) : Jn B (W.alloc (.cells #[.int .i64 (most : Int), .int .i64 0, .slice none 0 0, .map none] 68)) W.heap.size (.slice none 0 0) (.map none) most [] :=
  ⟨by simpa [tot] using heap_alloc_new W _, lie_nil _ _ _, fun _ h => by simp at h, by simp, fun a s e => by simp at e, by simp, fun _ h => by simp at h, fun _ h => by simp at h, ⟨by simp [tot], h2⟩, fun k q => by simp [Value.ownBlock] at q, fun k q => by cases q⟩
set_option maxHeartbeats 800000 in
theorem new_ok (W : World) (most : Nat) (h1 : 1 ≤ most) (h2 : most ≤ 65536) :
    Calls Tryd.prog 9 #[.int .i64 (most : Int)] W fun e W' => e = .returned (.tuple #[.pointer (some ⟨W.heap.size, 0, none⟩), .nilIface]) ∧ W' = W.alloc (.cells #[.int .i64 (most : Int), .int .i64 0, .slice none 0 0, .map none] 68) := by
  have a : ¬ (most : Int) < 1 := by omega
  have b : ¬ 65536 < (most : Int) := by omega
  go_enter Tryd.func9, Tryd.ntmps9
  go_wp2_with fail
  go_ret2
  exact ⟨rfl, rfl⟩
set_option maxHeartbeats 800000 in
theorem len_any (h : Jn B W jb sv mv most st) :
    Calls Tryd.prog 24 #[.pointer (some ⟨jb, 0, none⟩)] W fun e W' => e = .returned (.int .i64 (tot st : Int)) ∧ W' = W := by
  have c1 := h.c1
  clear h
  go_enter Tryd.func24, Tryd.ntmps24
  go_wp2_with fail
  go_ret
  exact ⟨rfl, rfl⟩
set_option maxHeartbeats 800000 in
theorem len_nil (W : World) :
    Calls Tryd.prog 24 #[.pointer none] W fun e W' => e = .returned (.int .i64 0) ∧ W' = W := by
  go_enter Tryd.func24, Tryd.ntmps24
  go_wp2_with fail
  go_ret
  exact ⟨rfl, rfl⟩
/-- Whether a frame is above all marks. -/
def aboveB (st : List Sx) (x : Int) : Bool := match st.getLast? with
  | none => true
  | some s => decide (s.f < x)
set_option maxHeartbeats 800000 in
theorem above_any (h : Jn B W jb sv mv most st) (x : Int) :
    Calls Tryd.prog 31 #[.pointer (some ⟨jb, 0, none⟩), .int .i64 x] W fun e W' => e = .returned (.bool (aboveB st x)) ∧ W' = W := by
  have c2 := h.c2
  have hlen := h.len
  by_cases h0 : st = []
  · subst h0
    have R : Hid (aboveB [] x = true) := rfl
    obtain ⟨a, c, rfl⟩ := h.row.form
    clear h
    go_enter Tryd.func31, Tryd.ntmps31
    go_wp2_with fail
    go_ret
    exact ⟨by rw [R.out]; rfl, rfl⟩
  · obtain ⟨l, s, rfl⟩ : ∃ l s, st = l ++ [s] := ⟨st.dropLast, st.getLast h0, (List.dropLast_concat_getLast h0).symm⟩
    obtain ⟨g, off, cap, rfl, -, -, hc⟩ := h.row.pos (by simp)
    have hx := (sCells_at (l ++ [s]) l.length s (by simp)).1
    have c3 := hc (l.length * 2) (by simp)
    rw [hx] at c3
    have R : Hid (aboveB (l ++ [s]) x = decide (s.f < x)) := by show _ = _; simp [aboveB]
    have hl1 : (l ++ [s]).length = l.length + 1 := by simp
    rw [hl1] at c2 hlen
    have hli : (l.length : Int) ≤ 1073741825 := by omega
    have e1 : ((l.length + 1 : Nat) : Int) - 1 = (l.length : Int) := by omega
    have e2 : ((l.length : Int)).toNat = l.length := by omega
    clear h hc hx hl1 h0
    go_enter Tryd.func31, Tryd.ntmps31
    go_wp2_with fail
    go_ret
    exact ⟨by show Ending.returned (.bool (decide ((l.length : Int) < 0) || decide (s.f < x))) = _; rw [R.out, decide_eq_false (by omega : ¬ (l.length : Int) < 0), Bool.false_or], rfl⟩
end
end Go.Proofs.YtnbgjbdbbmpoaaaDoor.Jo
