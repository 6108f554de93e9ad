/- AtlasExact: both atlases, and what a call answers. -/
import Derived.Test.YtmiaepjlifceeaaDoorCc
import Derived.Test.YtmiaepjlifceeaaDoorKh
namespace Go.Proofs.YtmiaepjlifceeaaDoor
open Go.RowKit Go.Shelf Go.Maps
/-- An error and its number. -/
def FE (Ad : Nat → Addr) (W : World) (fv : Value) (g : Nat) : Prop := (fv = .nilIface ∧ g = 0) ∨ ((g = 1 ∨ g = 7) ∧ ∃ d, Err Ad W fv g d ∧ d ≤ 2)
theorem FE.later {Ad : Nat → Addr} {W W' : World} {fv : Value} {g : Nat} (h : FE Ad W fv g) (hb : Below W.heap.size W W') : FE Ad W' fv g := by
  rcases h with h | ⟨h1, d, h2, h3⟩
  · exact .inl h
  · exact .inr ⟨h1, d, h2.later hb, h3⟩
theorem FE.ref {Ad : Nat → Addr} {W W' : World} {fv : Value} {g : Nat} (h : FE Ad W fv g) (hb : g ≠ 0 → Below W.heap.size W W') : FE Ad W' fv g := by
  rcases h with ⟨rfl, rfl⟩ | ⟨h1, d, h2, h3⟩
  · exact .inl ⟨rfl, rfl⟩
  · exact .inr ⟨h1, d, h2.later (hb (by omega)), h3⟩
theorem num_fe {Ad : Nat → Addr} {W : World} {fv : Value} {g : Nat} (hE : Env W Ad) (h : FE Ad W fv g) : Calls Tryd.prog 14 #[fv] W fun e w' => e = .returned (.int .i64 (g : Int)) ∧ Below W.heap.size W w' := by
  rcases h with ⟨rfl, rfl⟩ | ⟨h1, d, h2, h3⟩
  · refine (number_nil W).mono ?_
    rintro e w' ⟨rfl, rfl⟩
    exact ⟨rfl, Below.refl _ _⟩
  · have hv := h2.shape
    obtain ⟨ws, h2⟩ := h2
    have hh := number_some Ad fv [(ws, g)] d W hE h2.tr (by omega) hv
    have hk : numOf [g] = (g : Int) := by rcases h1 with rfl | rfl <;> decide
    refine hh.mono ?_
    rintro e w' ⟨rfl, hb⟩
    refine ⟨?_, hb⟩
    show Ending.returned (.int .i64 (numOf [g])) = _
    rw [hk]
/-- What a call of the atlas leaves. -/
def CPost (Ad : Nat → Addr) (B rb : Nat) (s' : AS) (S : Nat → Prop) (W : World) (n g : Nat) (e : Ending) (W' : World) : Prop :=
  ∃ fv, e = .returned (.tuple #[.int .i64 (n : Int), fv]) ∧ FE Ad W' fv g ∧ Goes B rb s' S W W'
/-- What a call of the document's leaves. -/
def RPost (B ub : Nat) (s' : AS) (U : Nat → Prop) (W : World) (n g : Nat) (e : Ending) (W' : World) : Prop :=
  e = .returned (.tuple #[.int .i64 (n : Int), .int .i64 (g : Int)]) ∧ (g ≠ 0 → Below W.heap.size W W') ∧ Rgo B ub s' U W W'
theorem cpost_bad {Ad : Nat → Addr} {B rb f : Nat} {s : AS} {S : Nat → Prop} {W : World} {g d : Nat} {args : Array Value} (hc : Atl B W rb s S) (hg : g = 1 ∨ g = 7) (hd : d ≤ 2)
    (h : Calls Tryd.prog f args W fun e W' => ∃ t q, e = .returned (.tuple #[.int .i64 0, .iface t q]) ∧ Err Ad W' (.iface t q) g d ∧ Below W.heap.size W W') : Calls Tryd.prog f args W (CPost Ad B rb s S W 0 g) := by
  refine h.mono ?_
  rintro e w ⟨t, q, rfl, he, hb⟩
  exact ⟨_, rfl, .inr ⟨hg, d, he, hd⟩, Goes.stay hc hb⟩
theorem cpost_ok {Ad : Nat → Addr} {B rb f n : Nat} {s' : AS} {S : Nat → Prop} {W : World} {args : Array Value}
    (h : Calls Tryd.prog f args W fun e W' => e = .returned (.tuple #[.int .i64 (n : Int), .nilIface]) ∧ Goes B rb s' S W W') : Calls Tryd.prog f args W (CPost Ad B rb s' S W n 0) := by
  refine h.mono ?_
  rintro e w ⟨rfl, hg⟩
  exact ⟨_, rfl, .inl ⟨rfl, rfl⟩, hg⟩
theorem rpost_bad {B ub f g : Nat} {s : AS} {U : Nat → Prop} {W : World} {args : Array Value} (hc : Rer B W ub s U)
    (h : Calls Tryd.prog f args W fun e W' => e = .returned (.tuple #[.int .i64 0, .int .i64 (g : Int)]) ∧ Below W.heap.size W W') : Calls Tryd.prog f args W (RPost B ub s U W 0 g) := by
  refine h.mono ?_
  rintro e w ⟨rfl, hb⟩
  exact ⟨rfl, fun _ => hb, Rgo.stay hc hb⟩
theorem rpost_ok {B ub f n : Nat} {s' : AS} {U : Nat → Prop} {W : World} {args : Array Value}
    (h : Calls Tryd.prog f args W fun e W' => e = .returned (.tuple #[.int .i64 (n : Int), .int .i64 0]) ∧ Rgo B ub s' U W W') : Calls Tryd.prog f args W (RPost B ub s' U W n 0) := by
  refine h.mono ?_
  rintro e w ⟨rfl, hg⟩
  exact ⟨rfl, fun q => absurd rfl q, hg⟩
theorem both_at (s : AS) (m : Nat) (hm : m < 4294967296) : ∃ (n g : Nat) (s' : AS),
    (∀ Ad B W rb S, Atl B W rb s S → Env3 W Ad → Calls Tryd.prog 12 #[.pointer (some ⟨rb, 0, none⟩), .int .u32 (m : Int)] W (CPost Ad B rb s' S W n g)) ∧
    (∀ B W ub U, Rer B W ub s U → Calls Tryd.prog 13 #[.pointer (some ⟨ub, 0, none⟩), .int .u32 (m : Int)] W (RPost B ub s' U W n g)) := by
  by_cases h : m < 2 ^ s.n
  · exact ⟨s.l.idxOf m, 0, s.put m, fun Ad B W rb S hc _ => cpost_ok (at_ok hc m h), fun B W ub U hr => rpost_ok (rat_ok hr m h)⟩
  · exact ⟨0, 1, s, fun Ad B W rb S hc hE => cpost_bad hc (.inl rfl) (by decide) (at_bad Ad hc hE m hm h), fun B W ub U hr => rpost_bad hr (rat_bad hr m h)⟩
/-- The set at a node, if there is one. -/
theorem node_or (l : List Nat) (i : Int) : (∃ n m : Nat, i = (n : Int) ∧ l[n]? = some m) ∨ (i < 0 ∨ (l.length : Int) ≤ i) := by
  by_cases h : 0 ≤ i ∧ i < (l.length : Int)
  · obtain ⟨n, rfl⟩ := Int.eq_ofNat_of_zero_le h.1
    obtain ⟨m, hm⟩ := at_lt l n (by omega)
    exact .inl ⟨n, m, rfl, hm⟩
  · exact .inr (by omega)
theorem both_turn (s : AS) (i c : Int) (b : Bool) : ∃ (n g : Nat) (s' : AS),
    (∀ Ad B W rb S, Atl B W rb s S → Env3 W Ad → Calls Tryd.prog (if b then 24 else 25) #[.pointer (some ⟨rb, 0, none⟩), .int .i64 i, .int .i64 c] W (CPost Ad B rb s' S W n g)) ∧
    (∀ B W ub U, Rer B W ub s U → Calls Tryd.prog 16 #[.pointer (some ⟨ub, 0, none⟩), .int .i64 i, .int .i64 c, .bool b] W (RPost B ub s' U W n g)) := by
  rcases node_or s.l i with ⟨k, m, rfl, hk⟩ | hi
  · by_cases h : 0 ≤ c ∧ c < (s.n : Int)
    · obtain ⟨d, rfl⟩ := Int.eq_ofNat_of_zero_le h.1
      refine ⟨s.l.idxOf (turnM b m d), 0, s.put (turnM b m d), fun Ad B W rb S hc _ => cpost_ok ?_, fun B W ub U hr => rpost_ok (rturn_ok hr k m hk d (by omega) b)⟩
      cases b with
      | true => exact awith_ok hc k m hk d (by omega)
      | false => exact awithout_ok hc k m hk d (by omega)
    · refine ⟨0, 1, s, fun Ad B W rb S hc hE => cpost_bad (d := 2) hc (.inl rfl) (by decide) ?_, fun B W ub U hr => rpost_bad hr (rturn_comp hr k (List.getElem?_eq_some_iff.1 hk).1 c b h)⟩
      cases b with
      | true => exact awith_comp Ad hc hE k m hk c h
      | false => exact awithout_comp Ad hc hE k m hk c h
  · refine ⟨0, 7, s, fun Ad B W rb S hc hE => cpost_bad (d := 2) hc (.inr rfl) (by decide) ?_, fun B W ub U hr => rpost_bad hr (rturn_none hr i c b hi)⟩
    cases b with
    | true => exact awith_none Ad hc hE i c hi
    | false => exact awithout_none Ad hc hE i c hi
/-- What Way leaves. -/
def CWay (Ad : Nat → Addr) (B rb : Nat) (s' : AS) (S : Nat → Prop) (W : World) (ol : List Nat) (g : Nat) (e : Ending) (W' : World) : Prop :=
  ∃ lv fv, e = .returned (.tuple #[lv, fv]) ∧ FE Ad W' fv g ∧ Ints W.heap.size W' lv ol ∧ Goes B rb s' S W W'
def RWay (B ub : Nat) (s' : AS) (U : Nat → Prop) (W : World) (ol : List Nat) (g : Nat) (e : Ending) (W' : World) : Prop :=
  ∃ kv, e = .returned (.tuple #[kv, .int .i64 (g : Int)]) ∧ Ints W.heap.size W' kv ol ∧ (g ≠ 0 → Below W.heap.size W W') ∧ Rgo B ub s' U W W'
section
variable {B : Nat} {W W' : World} {rb : Nat} {s : AS} {S : Nat → Prop}
set_option maxHeartbeats 800000 in
set_option maxRecDepth 100000 in
theorem way_from (Ad : Nat → Addr) (h : Atl B W rb s S) (hE : Env3 W Ad) (i j : Int) (hi : i < 0 ∨ (s.l.length : Int) ≤ i) :
    Calls Tryd.prog 17 #[.pointer (some ⟨rb, 0, none⟩), .int .i64 i, .int .i64 j] W fun e W' => ∃ t q, e = .returned (.tuple #[.slice none 0 0, .iface t q]) ∧ Err Ad W' (.iface t q) 7 2 ∧ Below W.heap.size W W' := by
  have MN := hid (mask_none Ad h hE i hi)
  have AC := hid (fun s v w h => at_err Ad s v 7 1 w h)
  clear hE h hi
  go_enter Tryd.func17, Tryd.ntmps17
  go_wp2_with fail
  refine MN.out.mono ?_
  rintro e w1 ⟨t, q, rfl, hv, hb⟩
  have HV := hid hv
  have HB := hid hb
  clear hv hb MN
  go_wp2_with fail
  refine (AC.out _ _ _ HV.out).mono ?_
  rintro e w2 ⟨t2, q2, rfl, hv2, hb2⟩
  have HV2 := hid hv2
  have HB2 := hid (HB.out.trans (hb2.mono HB.out.size))
  clear hv2 hb2 AC
  go_wp2_with fail
  go_ret2
  exact ⟨t2, q2, rfl, HV2.out, HB2.out⟩
set_option maxHeartbeats 800000 in
set_option maxRecDepth 100000 in
theorem way_to (Ad : Nat → Addr) (h : Atl B W rb s S) (hE : Env3 W Ad) (i m : Nat) (hi : s.l[i]? = some m) (j : Int) (hj : j < 0 ∨ (s.l.length : Int) ≤ j) :
    Calls Tryd.prog 17 #[.pointer (some ⟨rb, 0, none⟩), .int .i64 (i : Int), .int .i64 j] W fun e W' => ∃ t q, e = .returned (.tuple #[.slice none 0 0, .iface t q]) ∧ Err Ad W' (.iface t q) 7 2 ∧ Below W.heap.size W W' := by
  have MS := hid (mask_some h i m hi)
  have MN := hid (mask_none Ad h hE j hj)
  have AC := hid (fun s v w h => at_err Ad s v 7 1 w h)
  clear hE h hi hj
  go_enter Tryd.func17, Tryd.ntmps17
  go_wp2_with fail
  refine MS.out.mono ?_
  rintro e w0 ⟨rfl, rfl⟩
  clear MS
  go_wp2_with fail
  refine MN.out.mono ?_
  rintro e w1 ⟨t, q, rfl, hv, hb⟩
  have HV := hid hv
  have HB := hid hb
  clear hv hb MN
  go_wp2_with fail
  refine (AC.out _ _ _ HV.out).mono ?_
  rintro e w2 ⟨t2, q2, rfl, hv2, hb2⟩
  have HV2 := hid hv2
  have HB2 := hid (HB.out.trans (hb2.mono HB.out.size))
  clear hv2 hb2 AC
  go_wp2_with fail
  go_ret2
  exact ⟨t2, q2, rfl, HV2.out, HB2.out⟩
end
theorem cway_bad {Ad : Nat → Addr} {B rb f : Nat} {s : AS} {S : Nat → Prop} {W : World} {args : Array Value} (hc : Atl B W rb s S)
    (h : Calls Tryd.prog f args W fun e W' => ∃ t q, e = .returned (.tuple #[.slice none 0 0, .iface t q]) ∧ Err Ad W' (.iface t q) 7 2 ∧ Below W.heap.size W W') : Calls Tryd.prog f args W (CWay Ad B rb s S W [] 7) := by
  refine h.mono ?_
  rintro e w ⟨t, q, rfl, he, hb⟩
  exact ⟨_, _, rfl, .inr ⟨.inr rfl, 2, he, by decide⟩, World.ownsRow_nil _ _ _ _, Goes.stay hc hb⟩
theorem both_way (s : AS) (i j : Int) : ∃ (ol : List Nat) (g : Nat) (s' : AS), ol.length ≤ 100 ∧
    (∀ Ad B W rb S, Atl B W rb s S → Env3 W Ad → Calls Tryd.prog 17 #[.pointer (some ⟨rb, 0, none⟩), .int .i64 i, .int .i64 j] W (CWay Ad B rb s' S W ol g)) ∧
    (∀ B W ub U, Rer B W ub s U → Calls Tryd.prog 18 #[.pointer (some ⟨ub, 0, none⟩), .int .i64 i, .int .i64 j] W (RWay B ub s' U W ol g)) := by
  have bad : ∀ B W ub U, (i < 0 ∨ (s.l.length : Int) ≤ i ∨ j < 0 ∨ (s.l.length : Int) ≤ j) → Rer B W ub s U → Calls Tryd.prog 18 #[.pointer (some ⟨ub, 0, none⟩), .int .i64 i, .int .i64 j] W (RWay B ub s U W [] 7) := fun B W ub U hb hr => by
    refine (rway_none hr i j hb).mono ?_
    rintro e w ⟨rfl, hb⟩
    exact ⟨_, rfl, World.ownsRow_nil _ _ _ _, fun _ => hb, Rgo.stay hr hb⟩
  rcases node_or s.l i with ⟨a, x, rfl, ha⟩ | hi
  · rcases node_or s.l j with ⟨b, y, rfl, hb⟩ | hj
    · refine ⟨(way s.l a x y).w, 0, ⟨s.n, (way s.l a x y).l⟩, ?_, fun Ad B W rb S hc _ => ?_, fun B W ub U hr => ?_⟩
      · unfold way
        rw [Wy.run_len, Wy.run_len]
        have h1 := lst_len (an x y) 32
        have h2 := lst_len (an y x) 32
        simp
        omega
      · refine (way_ok hc a b x y ha hb).mono ?_
        rintro e w ⟨v, rfl, h1, S', h2, h3, h4, -⟩
        exact ⟨_, _, rfl, .inl ⟨rfl, rfl⟩, h1, S', h2, h3, h4⟩
      · refine (rway_ok hr a b x y ha hb).mono ?_
        rintro e w ⟨v, rfl, h1, h2⟩
        exact ⟨_, rfl, h1, fun q => absurd rfl q, h2⟩
    · exact ⟨[], 7, s, by simp, fun Ad B W rb S hc hE => cway_bad hc (way_to Ad hc hE a x ha j hj), fun B W ub U hr => bad B W ub U (.inr (.inr hj)) hr⟩
  · exact ⟨[], 7, s, by simp, fun Ad B W rb S hc hE => cway_bad hc (way_from Ad hc hE i j hi), fun B W ub U hr => bad B W ub U (hi.elim .inl fun h => .inr (.inl h)) hr⟩
end Go.Proofs.YtmiaepjlifceeaaDoor
