/- Goods: Put. -/
import Derived.Test.YtbfjijiakkopeaaDoorGsGd
namespace Go.Proofs.YtbfjijiakkopeaaDoor.Gs
open Go.RowKit Go.Shelf Go.Maps
open Go.Proofs.YtbfjijiakkopeaaDoor.Sc (dig)
/-- The first k numbers are the new ones. -/
def mix (l xs : List Int) (k : Nat) : List Int := xs.take k ++ l.drop k
/-- How many of the first k are others. -/
def dif (l xs : List Int) : Nat → Nat
  | 0 => 0
  | k + 1 => dif l xs k + if l[k]? = xs[k]? then 0 else 1
theorem dif_le (l xs : List Int) : ∀ k, dif l xs k ≤ k
  | 0 => Nat.le_refl _
  | k + 1 => by have := dif_le l xs k; unfold dif; split <;> omega
theorem mix_len {l xs : List Int} {k : Nat} (h : xs.length = l.length) (hk : k ≤ l.length) : (mix l xs k).length = l.length := by unfold mix; simp; omega
theorem mix_at {l xs : List Int} {k : Nat} (h : xs.length = l.length) (hk : k < l.length) : (mix l xs k)[k]? = l[k]? := by
  unfold mix
  rw [List.getElem?_append_right (by simp; omega)]
  simp
  congr 1
  omega
theorem mix_set {l xs : List Int} {k : Nat} {x : Int} (h : xs.length = l.length) (hx : xs[k]? = some x) : (mix l xs k).set k x = mix l xs (k + 1) := by
  have hk := (List.getElem?_eq_some_iff.1 hx).1
  unfold mix
  rw [take_next hx, List.set_append_right _ _ (by simp; omega), List.append_assoc]
  have e : k - (xs.take k).length = 0 := by simp; omega
  rw [e]
  obtain ⟨y, hy⟩ := at_lt l k (by omega)
  have : l.drop k = y :: l.drop (k + 1) := by
    rw [List.drop_eq_getElem_cons (by omega), (List.getElem?_eq_some_iff.1 hy).2]
  rw [this]
  rfl
theorem mix_same {l xs : List Int} {k : Nat} {x : Int} (h : xs.length = l.length) (hx : xs[k]? = some x) (hl : l[k]? = some x) : mix l xs (k + 1) = mix l xs k := by
  rw [← mix_set h hx]
  have : (mix l xs k)[k]? = some x := by rw [mix_at h (by have := (List.getElem?_eq_some_iff.1 hx).1; omega)]; exact hl
  obtain ⟨q, e⟩ := List.getElem?_eq_some_iff.1 this
  rw [← e, List.set_getElem_self]
theorem mix_all {l xs : List Int} (h : xs.length = l.length) : mix l xs l.length = xs := by
  unfold mix
  rw [List.take_of_length_le (by omega)]
  simp
/-- A row of numbers, none of S's blocks. -/
def VRow (S : Nat → Prop) (W : World) (v : Value) (xs : List Int) : Prop := ∃ a c, v = .slice a xs.length c ∧ (xs = [] ∨ ∃ b o, a = some ⟨b, o, none⟩ ∧ ¬ S b ∧ ∀ (j : Nat) x, xs[j]? = some x → W.cell? ⟨b, o + j, none⟩ = some (.int .i64 x))
theorem VRow.kept {S : Nat → Prop} {W W' : World} {v : Value} {xs : List Int} (h : VRow S W v xs) (hs : St S W W') : VRow S W' v xs := by
  obtain ⟨a, c, h1, h2⟩ := h
  refine ⟨a, c, h1, h2.imp id ?_⟩
  rintro ⟨b, o, h3, h4, h5⟩
  refine ⟨b, o, h3, h4, fun j x hx => ?_⟩
  have hc := h5 j x hx
  have hb := hs.block b (World.block_lt_of_cell? W _ hc) h4
  exact (World.cell?_of_block (w := W) (a := ⟨b, o + j, none⟩) hb).trans hc
section
variable {Ad : Nat → Addr} {B : Nat} {W : World} {gb mb : Nat} {v : Value} {ns : List ByteArray} {l : List Int} {n : Nat}
set_option maxHeartbeats 1600000 in
set_option maxRecDepth 100000 in
theorem put_nil (hE : Env8 W Ad) (a : Option Addr) (m c : Nat) :
    Calls Tryd.prog 16 #[.pointer none, .slice a m c] W fun e W' => ∃ t q, e = .returned (.iface t q) ∧ Err Ad W' (.iface t q) 2 1 ∧ Below W.heap.size W W' := by
  have AC := hid (fun str => at_err Ad str _ 2 0 W (err_leaf Ad W 2 (by decide)))
  have c2 := hE.k2
  clear hE
  go_enter Tryd.func16, Tryd.ntmps16
  go_wp2_with fail
  refine (AC.out _).mono ?_
  rintro e w1 ⟨t, q, rfl, hv, hb⟩
  have HV := hid hv
  have HB := hid hb
  clear hv hb AC
  go_wp2_with fail
  go_ret
  exact ⟨t, q, rfl, HV.out, HB.out⟩
theorem amL_ne {m p : Nat} (h : m ≠ p) : amL m p ≠ [] := by
  unfold amL
  by_cases q : p < m
  · rw [if_pos q]; simp
  · rw [if_neg q, List.append_nil]
    intro e
    have := congrArg List.length e
    simp at this
    omega
theorem amL_eq (m : Nat) : amL m m = [] := by unfold amL; simp
theorem amL_len {m p : Nat} (hp : p ≤ 40) : (amL m p).length ≤ 41 := by
  unfold amL
  split <;> simp <;> omega
theorem amL_one {m p : Nat} : ∀ x ∈ amL m p, x.2 = 1 := by
  intro x hx
  unfold amL at hx
  rcases List.mem_append.1 hx with h | h
  · obtain ⟨i, -, rfl⟩ := List.mem_map.1 h; rfl
  · split at h
    · obtain rfl := List.mem_singleton.1 h; rfl
    · simp at h
set_option maxHeartbeats 1600000 in
set_option maxRecDepth 100000 in
/-- Put of too few, of too many. -/
theorem put_bad (h : Gd B W gb mb v ns l n) (hE : Env8 W Ad) (a : Option Addr) (m c : Nat) (hm : m ≤ 1000) (hne : m ≠ l.length) :
    Calls Tryd.prog 16 #[.pointer (some ⟨gb, 0, none⟩), .slice a m c] W fun e W' => ∃ b s t q, e = .returned (.iface 110 (.pointer (some ⟨b, 0, none⟩))) ∧ W'.heap[b]? = some (.cells #[.string s, .iface t q] 112 (0, 0)) ∧ Top Ad W'.heap.size W' 3 (.iface t q) (amL m l.length) ∧ Below W.heap.size W W' := by
  have MA := hid (many_any Ad W hE m l.length (by have := h.few; omega) hm)
  obtain ⟨a1, c1', rfl⟩ := h.slice
  have c1 := h.c1
  have HN := hid (amL_ne hne)
  clear h hE hne hm
  go_enter Tryd.func16, Tryd.ntmps16
  go_wp2_with fail
  refine MA.out.mono ?_
  rintro e w1 ⟨v1, rfl, ht, hb⟩
  obtain ⟨t, q, rfl⟩ : ∃ t q, v1 = .iface t q := by
    rcases ht.tr.isIface with rfl | q
    · exfalso
      refine HN.out ?_
      rcases ht with ⟨-, q⟩ | ⟨p, -, q⟩ | ⟨b, vs, q, -⟩
      · exact q
      · obtain ⟨t, q', e, _⟩ := q.1.shape; cases e
      · cases q
    · exact q
  have HT := hid ht
  have HB := hid hb
  have AC := hid (fun s => at_some s t q w1)
  clear ht hb MA
  go_wp2_with fail
  refine (AC.out _).mono ?_
  rintro e w2 ⟨rfl, hq⟩
  have HQ := hid hq
  clear hq AC
  go_wp2_with fail
  go_ret
  have hb2 : Below w1.heap.size w1 w2 := by rw [HQ.out]; exact bAl _ _
  exact ⟨w1.heap.size, _, t, q, rfl, by rw [HQ.out]; exact heap_alloc_new w1 _, HT.out.later hb2, HB.out.trans (hb2.mono HB.out.size)⟩
set_option maxHeartbeats 1600000 in
set_option maxRecDepth 100000 in
theorem put_ok (h : Gd B W gb mb v ns l n) (hE : Env8 W Ad) (hn : n ≤ 900000) (u : Value) (xs : List Int) (hx : VRow (Ft gb v) W u xs) (hl : xs.length = l.length) :
    Calls Tryd.prog 16 #[.pointer (some ⟨gb, 0, none⟩), u] W fun e W' => e = .returned .nilIface ∧ Gd B W' gb mb v ns xs (n + dif l xs l.length) ∧ St (Ft gb v) W W' := by
  have h8 : l.length ≤ 8 := h.few
  have MA := hid (many_any Ad W hE l.length l.length (by omega) (by omega))
  rw [amL_eq] at MA
  have HX := hid hx
  have HG := hid h
  have HL := hid hl
  have HE := hid hE
  obtain ⟨a, c, rfl, -⟩ := hx
  rw [hl] at HX ⊢
  obtain ⟨a1, c1', rfl⟩ := h.slice
  have c1 := h.c1
  have h8i : (l.length : Int) ≤ 8 := by omega
  clear h hE hl
  go_enter Tryd.func16, Tryd.ntmps16
  go_wp2_with fail
  refine MA.out.mono ?_
  rintro e w1 ⟨v1, rfl, ht, hb⟩
  obtain rfl : v1 = .nilIface := by
    rcases ht with ⟨q, -⟩ | ⟨p, q, -⟩ | ⟨b, vs, -, q, q2⟩
    · exact q
    · cases q
    · have := q2.two; rw [List.map_eq_nil_iff.1 q.symm] at this; simp at this
  have G1 := hid (HG.out.later hb)
  have B1 := hid hb
  clear ht hb MA c1
  go_wp2_with fail
  go_loopw [6, 7, 26] (fun _ _ i wr => ∃ k : Nat, k ≤ l.length ∧ i = .int .i64 (k : Int) ∧ Hid (Gd B wr gb mb (.slice a1 l.length c1') ns (mix l xs k) (n + dif l xs k) ∧ St (Ft gb (.slice a1 l.length c1')) W wr)) (fun _ _ i _ => l.length - (intOf i).toNat)
  case atStart => exact ⟨0, Nat.zero_le _, rfl, by simpa [mix, dif] using G1.out, St.of_below B1.out⟩
  case round =>
    obtain ⟨k, hk, rfl, HK⟩ := hrel
    by_cases hlt : k < l.length
    · have hki : (k : Int) < (l.length : Int) := by omega
      obtain ⟨x, hxk⟩ := at_lt xs k (by rw [HL.out]; exact hlt)
      obtain ⟨y, hyk⟩ := at_lt l k hlt
      obtain ⟨b, o, rfl, d0⟩ : ∃ b o, a = some ⟨b, o, none⟩ ∧ wr.cell? ⟨b, o + k, none⟩ = some (.int .i64 x) := by
        obtain ⟨a2, c2, hv, hl2⟩ := HX.out.kept HK.out.2
        rw [HL.out] at hv
        obtain ⟨rfl, rfl⟩ : a = a2 ∧ c = c2 := by simpa using hv
        rcases hl2 with q | ⟨b, o, q1, -, q2⟩
        · rw [q] at hxk; simp at hxk
        · exact ⟨b, o, q1, q2 k x hxk⟩
      have hm : (mix l xs k)[k]? = some y := (mix_at HL.out hlt).trans hyk
      have hml := mix_len HL.out hk
      obtain ⟨g, c2, e2, d1, -⟩ := HK.out.1.at hm
      rw [hml] at e2
      obtain ⟨rfl, rfl⟩ : a1 = some ⟨g, 0, none⟩ ∧ c1' = c2 := by simpa using e2
      have c1 := HK.out.1.c1
      have hdl := dif_le l xs k
      by_cases hxy : y = x
      · subst hxy
        have NX : Hid (Gd B wr gb mb (.slice (some ⟨g, 0, none⟩) l.length c1') ns (mix l xs (k + 1)) (n + dif l xs (k + 1)) ∧ St (Ft gb (.slice (some ⟨g, 0, none⟩) l.length c1')) W wr) := by
          refine ⟨?_, HK.out.2⟩
          rw [mix_same HL.out hxk hyk]
          have : dif l xs (k + 1) = dif l xs k := by rw [dif, if_pos (hyk.trans hxk.symm)]; rfl
          rw [this]
          exact HK.out.1
        clear hxk hyk hm hml e2 hdl
        go_wp2_with fail
        go_roundw
        case rel => exact ⟨k + 1, by omega, by go_num, NX.out⟩
        case measure => simp [intOf]; omega
      · have CH := hid (change_any HK.out.1 (by omega) k x y hm)
        have NX : Hid (∀ w', Gd B w' gb mb (.slice (some ⟨g, 0, none⟩) l.length c1') ns ((mix l xs k).set k x) (n + dif l xs k + 1) → St (Ft gb (.slice (some ⟨g, 0, none⟩) l.length c1')) wr w' → Gd B w' gb mb (.slice (some ⟨g, 0, none⟩) l.length c1') ns (mix l xs (k + 1)) (n + dif l xs (k + 1)) ∧ St (Ft gb (.slice (some ⟨g, 0, none⟩) l.length c1')) W w') := by
          intro w' q1 q2
          refine ⟨?_, HK.out.2.trans q2 fun _ _ q => q⟩
          rw [mix_set HL.out hxk] at q1
          have : dif l xs (k + 1) = dif l xs k + 1 := by
            rw [dif, if_neg]
            intro e
            rw [hxk, hyk] at e
            exact hxy (by simpa using e)
          rw [this]
          exact q1
        clear hxk hyk hm hml e2 hdl
        go_wp2_with fail
        refine CH.out.mono ?_
        rintro e w2 ⟨rfl, hg, hs⟩
        have N2 := hid (NX.out w2 hg hs)
        clear hg hs CH NX d0 d1 c1
        go_wp2_with fail
        go_roundw
        case rel => exact ⟨k + 1, by omega, by go_num, N2.out⟩
        case measure => simp [intOf]; omega
    · have hki : ¬ (k : Int) < (l.length : Int) := by omega
      obtain rfl : k = l.length := by omega
      rw [mix_all HL.out] at HK
      go_wp2_with fail
      go_ret
      exact ⟨rfl, HK.out⟩
end
end Go.Proofs.YtbfjijiakkopeaaDoor.Gs
