/- BlameTells: the walk. -/
import Derived.Test.YthmiacpaefjanaaDoorRd
import Derived.Test.YthmiacpaefjanaaDoorTh
namespace Go.Proofs.YthmiacpaefjanaaDoor
open Go.RowKit Go.Shelf
theorem leafOf_range (ts : List Twg) : ∀ p ∈ leafOf ts, 1 ≤ p.2 ∧ p.2 ≤ 18 := by
  intro p hp
  unfold leafOf at hp
  split at hp
  · split at hp
    · simp at hp; rw [hp]; constructor <;> simp only [] <;> omega
    · simp at hp
  · simp at hp
theorem leaves2_range (rs : List (Value × List Twg)) : ∀ p ∈ leaves2 rs, 1 ≤ p.2 ∧ p.2 ≤ 18 := by
  intro p hp
  unfold leaves2 at hp
  obtain ⟨l, hl, hp⟩ := List.mem_flatten.1 hp
  obtain ⟨r, hr, rfl⟩ := List.mem_map.1 hl
  exact leafOf_range _ p hp
/-- What Has and the law's loop say of a number. -/
def hasN (ls : List (List ByteArray × Nat)) (n : Int) : Bool := ls.any fun p => (p.2 : Int) == n
theorem has_num (Ad : Nat → Addr) (v : Value) (ls : List (List ByteArray × Nat)) (w : World) (hE : Env w Ad) (hT : Tr Ad w.heap.size w 12 v ls) (hr : ∀ p ∈ ls, 1 ≤ p.2 ∧ p.2 ≤ 18) (n : Int) :
    Calls Tryd.prog 16 #[v, .int .i64 n] w fun e w' => e = .returned (.bool (hasN ls n)) ∧ Below w.heap.size w w' := by
  by_cases h : 1 ≤ n ∧ n ≤ 18
  · obtain ⟨k, rfl⟩ : ∃ k : Nat, n = (k : Int) + 1 := ⟨(n - 1).toNat, by omega⟩
    have := has_any Ad v ls 12 w hE hT (by omega) k (by omega)
    have e : hasN ls ((k : Int) + 1) = decide (k + 1 ∈ ls.map Prod.snd) := by
      rw [Bool.eq_iff_iff]
      unfold hasN
      simp only [List.any_eq_true, beq_iff_eq, decide_eq_true_eq, List.mem_map]
      constructor
      · rintro ⟨p, hp, hq⟩; exact ⟨p, hp, by omega⟩
      · rintro ⟨p, hp, hq⟩; exact ⟨p, hp, by omega⟩
    rw [e]
    exact this
  · have e : hasN ls n = false := by
      unfold hasN
      rw [List.any_eq_false]
      intro p hp hq
      have := hr p hp
      simp at hq
      omega
    rw [e]
    exact has_out v n w h
theorem hasN_next {ls : List (List ByteArray × Nat)} {k : Nat} {p : List ByteArray × Nat} (h : ls[k]? = some p) (n : Int) : hasN (ls.take (k + 1)) n = (hasN (ls.take k) n || ((p.2 : Int) == n)) := by
  unfold hasN
  rw [take_next h, List.any_append]; simp
set_option maxHeartbeats 4000000 in
set_option maxRecDepth 100000 in
theorem tells_law (Ad : Nat → Addr) (w : World) (v : Value) (rs : List (Value × List Twg)) (o : Int) (hE : Env w Ad) (h : Rows2 w v rs) (hcap : ∀ r ∈ rs, capV r.1) :
    Calls Tryd.prog 3 #[v, .int .i64 o] w fun e w' => e = .returned (.bool true) ∧ Below w.heap.size w w' := by
  have HE := hid hE
  have HR := hid h
  have HC := hid hcap
  have AC := hid (awake_any w Ad hE)
  obtain ⟨⟨a, c, rfl, -⟩, -⟩ := h
  clear hE hcap
  go_enter Tryd.func3, Tryd.ntmps3
  go_wp2_with fail
  refine AC.out.mono ?_
  rintro e w1 ⟨rfl, hb1⟩
  have B1 := hid hb1
  have GC := hid (great_any w1 _ rs (HR.out.later hb1))
  clear hb1 AC
  go_wp2_with fail
  refine GC.out.mono ?_
  rintro e w1 ⟨⟨g, rfl, hsm⟩, rfl⟩
  cases g with
  | true =>
    clear hsm
    go_wp2_with fail
    go_ret
    exact ⟨rfl, B1.out⟩
  | false =>
    have HS := hid (hsm rfl)
    have hl20 : (leaves2 rs).length ≤ 20 := Nat.le_trans (leaves2_len rs) HS.out.1
    have SM := hid (leaves2_small HS.out)
    have RG := hid (leaves2_range rs)
    have C1 := hid (bunch_any Ad w1 _ rs o (HE.out.later B1.out) (HR.out.later B1.out) HS.out)
    clear hsm GC
    go_wp2_with fail
    refine C1.out.mono ?_
    rintro e w2 ⟨v2, rfl, t2, hb2⟩
    have B2 := hid (B1.out.trans (hb2.mono B1.out.size))
    have T2 := hid t2
    have L2 := hid (refleaves_any w2 _ rs (HR.out.later B2.out) HS.out HC.out)
    clear t2 hb2 C1
    go_wp2_with fail
    refine L2.out.mono ?_
    rintro e w3 ⟨x3, rfl, ho3, hb3⟩
    have B3 := hid (B2.out.trans (hb3.mono B2.out.size))
    have O3 := hid ho3
    have T3 := hid (T2.out.later hb3)
    obtain ⟨xa, xc, rfl⟩ := own_slice ho3
    obtain ⟨ls, hls⟩ : ∃ ls, ls = leaves2 rs := ⟨_, rfl⟩
    rw [← hls] at O3 hl20 T3 RG SM ⊢
    clear ho3 hb3 L2 T2 hls HS B2 B1 HR HC
    have hl20i : (ls.length : Int) ≤ 20 := by omega
    have LC := hid (fun W => least_any W w2.heap.size (.slice xa ls.length xc) ls)
    have NUM : Hid (∃ z : Int, z = (least (ls.map Prod.snd) : Int) ∧ Calls Tryd.prog 12 #[v2] w3 fun e w' => e = .returned (.int .i64 z) ∧ Below w3.heap.size w3 w') := by
      by_cases he : ls = []
      · refine ⟨0, by rw [he]; rfl, ?_⟩
        have T' := T3.out
        rw [he] at T'
        rw [T'.nil]
        exact (number_nil w3).mono fun e w' ⟨h1, h2⟩ => ⟨h1, by rw [h2]; exact Below.refl _ _⟩
      · obtain ⟨t, q, hv⟩ := T3.out.some he
        refine ⟨_, numOf_least (ls.map Prod.snd) (by simpa using he) (fun x hx => ?_), number_some Ad v2 ls 12 w3 (HE.out.later B3.out) T3.out.tr (by omega) ⟨t, q, hv⟩⟩
        obtain ⟨p, hp, rfl⟩ := List.mem_map.1 hx
        exact RG.out p hp
    have TAIL : Hid (∀ W, Below w3.heap.size w3 W → True) := fun _ _ => trivial
    obtain ⟨z, hz, NC0⟩ := NUM.out
    have HZ := hid hz
    have NC := hid NC0
    clear NUM NC0 TAIL hz
    have hnil : ∃ b : Bool, b = decide (ls = []) ∧ ((b = true ∧ v2 = .nilIface) ∨ (b = false ∧ ∃ t q, v2 = .iface t q)) := by
      by_cases he : ls = []
      · have T' := T3.out
        rw [he] at T'
        exact ⟨true, by simp [he], .inl ⟨rfl, T'.nil⟩⟩
      · exact ⟨false, by simp [he], .inr ⟨rfl, T3.out.some he⟩⟩
    obtain ⟨b, hb, hcase⟩ := hnil
    rcases hcase with ⟨rfl, rfl⟩ | ⟨rfl, t, q, rfl⟩
    · have q0 : ((ls.length : Int) == 0) = true := by simp at hb; simp [hb]
      clear hb
      go_wp2_with fail
      refine NC.out.mono ?_
      rintro e w4 ⟨rfl, hb4⟩
      have B4 := hid (B3.out.trans (hb4.mono B3.out.size))
      have O4 := hid (own_more O3.out hb4)
      have T4 := hid (T3.out.later hb4)
      have LC := hid (least_any w4 _ _ ls O4.out (by omega))
      rw [← HZ.out] at LC
      have L5 := hid (leaves_any Ad _ ls 12 w4 (HE.out.later B4.out) T4.out.tr (by omega) SM.out (by omega))
      clear hb4 NC O3 T3 B3 HZ
      go_wp2_with fail
      refine LC.out.mono ?_
      rintro e w5 ⟨rfl, rfl⟩
      clear LC
      go_wp2_with fail
      refine L5.out.mono ?_
      rintro e w6 ⟨y6, rfl, ho6, hb6⟩
      have B6 := hid (B4.out.trans (hb6.mono B4.out.size))
      have O6 := hid (own_more O4.out hb6)
      have T6 := hid (T4.out.later hb6)
      have SC := hid (same_any w6 _ _ y6 _ ls ho6 O6.out (by omega))
      clear ho6 hb6 L5 O4 T4 B4
      go_wp2_with fail
      refine SC.out.mono ?_
      rintro e w7 ⟨rfl, hb7⟩
      have B7 := hid (B6.out.trans (hb7.mono B6.out.size))
      have O7 := hid (own_more O6.out hb7)
      have T7 := hid (T6.out.later hb7)
      clear hb7 SC O6 T6 B6
      go_wp2_with fail
      go_loopw [7, 8, 9] (fun n _ _ wr => ∃ m : Int, -1 ≤ m ∧ m ≤ 21 ∧ n = .int .i64 m ∧ Below w7.heap.size w7 wr) (fun n _ _ _ => (21 - intOf n).toNat)
      case atStart => exact ⟨-1, by omega, by omega, rfl, Below.refl _ _⟩
      case round =>
        rename World => wo
        obtain ⟨m, hm1, hm2, rfl, hb⟩ := hrel
        have HB := hid hb
        clear hb
        by_cases hm : m ≤ 20
        · go_wp2_with fail
          go_loop [8, 9] (fun b i => ∃ k : Nat, k ≤ ls.length ∧ i = .int .i64 (k : Int) ∧ ∃ x : Bool, Hid (x = hasN (ls.take k) m) ∧ b = .bool x) (fun _ i => ls.length - (intOf i).toNat)
          case atStart => exact ⟨0, Nat.zero_le _, rfl, false, rfl, rfl⟩
          case round =>
            obtain ⟨k, hk, rfl, x, HX, rfl⟩ := hrel
            by_cases hlt : k < ls.length
            · have hki : (k : Int) < (ls.length : Int) := by omega
              obtain ⟨p, hp⟩ := at_lt ls k hlt
              have HN := hid (hasN_next hp m)
              obtain ⟨e1, e2⟩ := leafCells_at ls k p hp
              obtain ⟨g, d, f, -, hg⟩ := World.ownsRow.form O7.out (by omega)
              have O' := O7.out
              rw [f] at O'
              have c2 : wo.cell? ⟨g, k * 2 + 1, none⟩ = some (.int .i64 (p.2 : Int)) := (HB.out.cell (p := ⟨g, k * 2 + 1, none⟩) hg).trans ((O'.cellAt (k * 2 + 1) (by omega)).trans e2)
              obtain ⟨rfl, rfl⟩ : xa = some ⟨g, 0, none⟩ ∧ xc = d := by simpa using f
              clear O' f e1 e2 hp
              generalize p.2 = y at *
              cases x with
              | true =>
                have R : Hid (true = hasN (ls.take (k + 1)) m) := by show _ = _; rw [HN.out, ← HX.out]; rfl
                go_wp2_with fail
                go_round
                case rel => exact ⟨k + 1, by omega, by go_num, true, R.out, rfl⟩
                case measure => simp [intOf]; omega
              | false =>
                have R : Hid (((y : Int) == m) = hasN (ls.take (k + 1)) m) := by show _ = _; rw [HN.out, ← HX.out]; rfl
                go_wp2_with fail
                go_round
                case rel => exact ⟨k + 1, by omega, by go_num, _, R.out, rfl⟩
                case measure => simp [intOf]; omega
            · have hki : ¬ ((k : Int) < (ls.length : Int)) := by omega
              have R : Hid (x = hasN ls m) := by show _ = _; rw [HX.out, List.take_of_length_le (by omega)]
              have HC := hid (has_num Ad _ ls wo (HE.out.later (B7.out.trans (HB.out.mono B7.out.size))) (T7.out.later HB.out).tr RG.out m)
              rw [← R.out] at HC
              clear HX R
              go_wp2_with fail
              refine HC.out.mono ?_
              rintro e w8 ⟨rfl, hb8⟩
              have B8 := hid (HB.out.trans (hb8.mono HB.out.size))
              clear hb8 HC
              go_wp2_with fail
              go_roundw
              case rel => exact ⟨m + 1, by omega, by omega, rfl, B8.out⟩
              case measure => simp [intOf]; omega
        · go_wp2_with fail
          go_ret
          exact ⟨rfl, B7.out.trans (HB.out.mono B7.out.size)⟩
    · have q0 : ((ls.length : Int) == 0) = false := by simp at hb; simp [hb]
      clear hb
      go_wp2_with fail
      refine NC.out.mono ?_
      rintro e w4 ⟨rfl, hb4⟩
      have B4 := hid (B3.out.trans (hb4.mono B3.out.size))
      have O4 := hid (own_more O3.out hb4)
      have T4 := hid (T3.out.later hb4)
      have LC := hid (least_any w4 _ _ ls O4.out (by omega))
      rw [← HZ.out] at LC
      have L5 := hid (leaves_any Ad _ ls 12 w4 (HE.out.later B4.out) T4.out.tr (by omega) SM.out (by omega))
      clear hb4 NC O3 T3 B3 HZ
      go_wp2_with fail
      refine LC.out.mono ?_
      rintro e w5 ⟨rfl, rfl⟩
      clear LC
      go_wp2_with fail
      refine L5.out.mono ?_
      rintro e w6 ⟨y6, rfl, ho6, hb6⟩
      have B6 := hid (B4.out.trans (hb6.mono B4.out.size))
      have O6 := hid (own_more O4.out hb6)
      have T6 := hid (T4.out.later hb6)
      have SC := hid (same_any w6 _ _ y6 _ ls ho6 O6.out (by omega))
      clear ho6 hb6 L5 O4 T4 B4
      go_wp2_with fail
      refine SC.out.mono ?_
      rintro e w7 ⟨rfl, hb7⟩
      have B7 := hid (B6.out.trans (hb7.mono B6.out.size))
      have O7 := hid (own_more O6.out hb7)
      have T7 := hid (T6.out.later hb7)
      clear hb7 SC O6 T6 B6
      go_wp2_with fail
      go_loopw [7, 8, 9] (fun n _ _ wr => ∃ m : Int, -1 ≤ m ∧ m ≤ 21 ∧ n = .int .i64 m ∧ Below w7.heap.size w7 wr) (fun n _ _ _ => (21 - intOf n).toNat)
      case atStart => exact ⟨-1, by omega, by omega, rfl, Below.refl _ _⟩
      case round =>
        rename World => wo
        obtain ⟨m, hm1, hm2, rfl, hb⟩ := hrel
        have HB := hid hb
        clear hb
        by_cases hm : m ≤ 20
        · go_wp2_with fail
          go_loop [8, 9] (fun b i => ∃ k : Nat, k ≤ ls.length ∧ i = .int .i64 (k : Int) ∧ ∃ x : Bool, Hid (x = hasN (ls.take k) m) ∧ b = .bool x) (fun _ i => ls.length - (intOf i).toNat)
          case atStart => exact ⟨0, Nat.zero_le _, rfl, false, rfl, rfl⟩
          case round =>
            obtain ⟨k, hk, rfl, x, HX, rfl⟩ := hrel
            by_cases hlt : k < ls.length
            · have hki : (k : Int) < (ls.length : Int) := by omega
              obtain ⟨p, hp⟩ := at_lt ls k hlt
              have HN := hid (hasN_next hp m)
              obtain ⟨e1, e2⟩ := leafCells_at ls k p hp
              obtain ⟨g, d, f, -, hg⟩ := World.ownsRow.form O7.out (by omega)
              have O' := O7.out
              rw [f] at O'
              have c2 : wo.cell? ⟨g, k * 2 + 1, none⟩ = some (.int .i64 (p.2 : Int)) := (HB.out.cell (p := ⟨g, k * 2 + 1, none⟩) hg).trans ((O'.cellAt (k * 2 + 1) (by omega)).trans e2)
              obtain ⟨rfl, rfl⟩ : xa = some ⟨g, 0, none⟩ ∧ xc = d := by simpa using f
              clear O' f e1 e2 hp
              generalize p.2 = y at *
              cases x with
              | true =>
                have R : Hid (true = hasN (ls.take (k + 1)) m) := by show _ = _; rw [HN.out, ← HX.out]; rfl
                go_wp2_with fail
                go_round
                case rel => exact ⟨k + 1, by omega, by go_num, true, R.out, rfl⟩
                case measure => simp [intOf]; omega
              | false =>
                have R : Hid (((y : Int) == m) = hasN (ls.take (k + 1)) m) := by show _ = _; rw [HN.out, ← HX.out]; rfl
                go_wp2_with fail
                go_round
                case rel => exact ⟨k + 1, by omega, by go_num, _, R.out, rfl⟩
                case measure => simp [intOf]; omega
            · have hki : ¬ ((k : Int) < (ls.length : Int)) := by omega
              have R : Hid (x = hasN ls m) := by show _ = _; rw [HX.out, List.take_of_length_le (by omega)]
              have HC := hid (has_num Ad _ ls wo (HE.out.later (B7.out.trans (HB.out.mono B7.out.size))) (T7.out.later HB.out).tr RG.out m)
              rw [← R.out] at HC
              clear HX R
              go_wp2_with fail
              refine HC.out.mono ?_
              rintro e w8 ⟨rfl, hb8⟩
              have B8 := hid (HB.out.trans (hb8.mono HB.out.size))
              clear hb8 HC
              go_wp2_with fail
              go_roundw
              case rel => exact ⟨m + 1, by omega, by omega, rfl, B8.out⟩
              case measure => simp [intOf]; omega
        · go_wp2_with fail
          go_ret
          exact ⟨rfl, B7.out.trans (HB.out.mono B7.out.size)⟩
end Go.Proofs.YthmiacpaefjanaaDoor
