/- Rows of twigs in memory; great. -/
import Derived.Test.YthmiacpaefjanaaDoorNa
namespace Go.Proofs.YthmiacpaefjanaaDoor
open Go.RowKit Go.Shelf
/-- A twig. -/
structure Twg where
  k : Int
  s : ByteArray
  n : Int
def Cells3 (w : World) (b o : Nat) (ts : List Twg) : Prop := ∀ (j : Nat) (t : Twg), ts[j]? = some t → w.cell? ⟨b, o + j * 3, none⟩ = some (.int .i64 t.k) ∧ w.cell? ⟨b, o + j * 3 + 1, none⟩ = some (.string t.s) ∧ w.cell? ⟨b, o + j * 3 + 2, none⟩ = some (.int .i64 t.n)
def TwRow (w : World) (v : Value) (ts : List Twg) : Prop := ∃ a c, v = .slice a ts.length c ∧ (ts = [] ∨ ∃ b o, a = some ⟨b, o, none⟩ ∧ Cells3 w b o ts)
structure Rows2 (w : World) (v : Value) (rs : List (Value × List Twg)) : Prop where
  lay : ∃ a c, v = .slice a rs.length c ∧ (rs = [] ∨ ∃ b o, a = some ⟨b, o, none⟩ ∧ ∀ (j : Nat) r, rs[j]? = some r → w.cell? ⟨b, o + j, none⟩ = some r.1)
  rows : ∀ r ∈ rs, TwRow w r.1 r.2
theorem Below.seen {B : Nat} {w w' : World} {p : Addr} {v : Value} (hb : Below B w w') (hB : w.heap.size ≤ B) (h : w.cell? p = some v) : w'.cell? p = some v :=
  (hb.cell (p := p) (Nat.lt_of_lt_of_le (World.block_lt_of_cell? w p h) hB)).trans h
theorem TwRow.later {w w' : World} {v : Value} {ts : List Twg} (h : TwRow w v ts) (hb : Below w.heap.size w w') : TwRow w' v ts := by
  obtain ⟨a, c, h1, h2⟩ := h
  refine ⟨a, c, h1, h2.imp id ?_⟩
  rintro ⟨b, o, h3, h4⟩
  refine ⟨b, o, h3, fun j t ht => ?_⟩
  obtain ⟨e0, e1, e2⟩ := h4 j t ht
  exact ⟨Below.seen hb (Nat.le_refl _) e0, Below.seen hb (Nat.le_refl _) e1, Below.seen hb (Nat.le_refl _) e2⟩
theorem Rows2.later {w w' : World} {v : Value} {rs : List (Value × List Twg)} (h : Rows2 w v rs) (hb : Below w.heap.size w w') : Rows2 w' v rs := by
  obtain ⟨⟨a, c, h1, h2⟩, h3⟩ := h
  refine ⟨⟨a, c, h1, h2.imp id ?_⟩, fun r hr => (h3 r hr).later hb⟩
  rintro ⟨b, o, h3, h4⟩
  exact ⟨b, o, h3, fun j r hr => Below.seen hb (Nat.le_refl _) (h4 j r hr)⟩
/-- What great lets by. -/
def SmallT (ts : List Twg) : Prop := ts.length ≤ 12 ∧ ∀ t ∈ ts, t.s.size ≤ 100
def SmallR (rs : List (Value × List Twg)) : Prop := rs.length ≤ 20 ∧ ∀ r ∈ rs, SmallT r.2
def GreatR (rs : List (Value × List Twg)) (e : Ending) : Prop := ∃ g, e = .returned (.bool g) ∧ (g = false → SmallR rs)
set_option maxHeartbeats 2000000 in
set_option maxRecDepth 100000 in
theorem great_any (w : World) (v : Value) (rs : List (Value × List Twg)) (h : Rows2 w v rs) :
    Calls Tryd.prog 9 #[v] w fun e w' => GreatR rs e ∧ w' = w := by
  obtain ⟨⟨a, c, rfl, h1⟩, h2⟩ := h
  have H1 := hid h1
  have H2 := hid h2
  clear h1 h2
  by_cases hbig : 20 < rs.length
  · have hbi : (20 : Int) < (rs.length : Int) := by omega
    go_enter Tryd.func9, Tryd.ntmps9
    go_wp2_with fail
    go_ret
    exact ⟨⟨true, rfl, by simp⟩, rfl⟩
  · have hbi : ¬ ((20 : Int) < (rs.length : Int)) := by omega
    have hbj : (rs.length : Int) ≤ 20 := by omega
    go_enter Tryd.func9, Tryd.ntmps9
    go_wp2_with fail
    go_loop [3, 4] (fun i _ => ∃ k : Nat, k ≤ rs.length ∧ i = .int .i64 (k : Int) ∧ ∀ r ∈ rs.take k, SmallT r.2) (fun i _ => rs.length - (intOf i).toNat)
    case atStart => exact ⟨0, Nat.zero_le _, rfl, by simp⟩
    case round =>
      obtain ⟨k, hk, rfl, hs⟩ := hrel
      have HS := hid hs
      clear hs
      by_cases hlt : k < rs.length
      · have hki : (k : Int) < (rs.length : Int) := by omega
        obtain ⟨r, hr⟩ := at_lt rs k hlt
        have HT := hid (take_next hr)
        obtain ⟨b, o, rfl, hc⟩ : ∃ b o, a = some ⟨b, o, none⟩ ∧ ∀ (j : Nat) r, rs[j]? = some r → w.cell? ⟨b, o + j, none⟩ = some r.1 := by
          rcases H1.out with h | h
          · rw [h] at hlt; simp at hlt
          · exact h
        have c1 := hc k r hr
        obtain ⟨a', c', e', h3⟩ := H2.out r (List.mem_of_getElem? hr)
        rw [e'] at c1
        have H3 := hid h3
        clear hc h3 hr e'
        by_cases hb12 : 12 < r.2.length
        · have hb12i : (12 : Int) < (r.2.length : Int) := by omega
          go_wp2_with fail
          go_ret
          exact ⟨⟨true, rfl, by simp⟩, rfl⟩
        · have hb12i : ¬ ((12 : Int) < (r.2.length : Int)) := by omega
          have hb12j : (r.2.length : Int) ≤ 12 := by omega
          go_wp2_with fail
          go_loop [4] (fun j => ∃ m : Nat, m ≤ r.2.length ∧ j = .int .i64 (m : Int) ∧ ∀ t ∈ r.2.take m, t.s.size ≤ 100) (fun j => r.2.length - (intOf j).toNat)
          case atStart => exact ⟨0, Nat.zero_le _, rfl, by simp⟩
          case round =>
            obtain ⟨m, hm, rfl, hs⟩ := hrel
            have HM := hid hs
            clear hs
            by_cases hlm : m < r.2.length
            · have hmi : (m : Int) < (r.2.length : Int) := by omega
              obtain ⟨t, ht⟩ := at_lt r.2 m hlm
              have HT2 := hid (take_next ht)
              obtain ⟨b', o', rfl, hc⟩ : ∃ b o, a' = some ⟨b, o, none⟩ ∧ Cells3 w b o r.2 := by
                rcases H3.out with h | h
                · rw [h] at hlm; simp at hlm
                · exact h
              have d1 := (hc m t ht).2.1
              clear hc ht
              by_cases h100 : 100 < t.s.size
              · have h100i : (100 : Int) < (t.s.size : Int) := by omega
                go_wp2_with fail
                go_ret
                exact ⟨⟨true, rfl, by simp⟩, rfl⟩
              · have h100i : ¬ ((100 : Int) < (t.s.size : Int)) := by omega
                go_wp2_with fail
                go_round
                case rel =>
                  refine ⟨m + 1, by omega, by go_num, fun x hx => ?_⟩
                  rw [HT2.out] at hx
                  rcases List.mem_append.1 hx with hx | hx
                  · exact HM.out x hx
                  · simp at hx; subst hx; omega
                case measure => simp [intOf]; omega
            · have hmi : ¬ ((m : Int) < (r.2.length : Int)) := by omega
              have hall : Hid (SmallT r.2) := ⟨by omega, fun t ht => HM.out t (by rw [List.take_of_length_le (by omega)]; exact ht)⟩
              go_wp2_with fail
              go_round
              case rel =>
                refine ⟨k + 1, by omega, by go_num, fun x hx => ?_⟩
                rw [HT.out] at hx
                rcases List.mem_append.1 hx with hx | hx
                · exact HS.out x hx
                · simp at hx; subst hx; exact hall.out
              case measure => simp [intOf]; omega
      · have hki : ¬ ((k : Int) < (rs.length : Int)) := by omega
        have R : Hid (SmallR rs) := ⟨by omega, fun r hr => HS.out r (by rw [List.take_of_length_le (by omega)]; exact hr)⟩
        go_wp2_with fail
        go_ret
        exact ⟨⟨false, rfl, fun _ => R.out⟩, rfl⟩
end Go.Proofs.YthmiacpaefjanaaDoor
