/- For Check: an error at its way; what is wrong with a component. -/
import Derived.Test.YtbfjijiakkopeaaDoorScSc
import Derived.Test.YtbfjijiakkopeaaDoorShelf
import Derived.Lib.ItoaNum
namespace Go.Proofs.YtbfjijiakkopeaaDoor.Sc
open Go.RowKit Go.Shelf
/-- A number's digits. -/
def dig (i : Nat) : ByteArray := ⟨(Lib.decDigits i).toArray⟩
theorem itoa_any (i : Nat) (hi : i < 100) (w : World) : Calls Tryd.prog 54 #[.int .i64 (i : Int)] w fun e w' => e = .returned (.string (dig i)) ∧ w' = w := Tryd.strconv_Itoa_small i hi w
theorem sent_chn (Ad : Nat → Addr) (n₀ k : Nat) (W : World) (hk : 1 ≤ k ∧ k ≤ 18) : Chn Ad n₀ W 0 (.iface 154 (.pointer (some (Ad k)))) ([], k) := ⟨rfl, hk.1, hk.2, Nat.le_refl _⟩
set_option maxHeartbeats 800000 in
theorem wayat_any (Ad : Nat → Addr) (W : World) (l p : ByteArray) (i : Nat) (hi : i < 100) (ns : List Nat) (hl : ns.length ≤ 1) (hn : ∀ k ∈ ns, 1 ≤ k ∧ k ≤ 18) :
    Calls Tryd.prog 42 #[.string l, .int .i64 (i : Int), .string p, errV Ad ns] W fun e W' => ∃ v', e = .returned v' ∧ One Ad W'.heap.size W' v' (ns.map fun k => ([l, dig i, p], k)) ∧ Below W.heap.size W W' := by
  have IT := hid (itoa_any i hi W)
  match ns, hl, hn with
  | [], _, _ =>
    have A0 := hid (at_nil p W)
    have A1 := hid (at_nil (dig i) W)
    have A2 := hid (at_nil l W)
    unfold errV
    go_enter Tryd.func42, Tryd.ntmps42
    go_wp2_with fail
    refine IT.out.mono ?_
    rintro e w1 ⟨rfl, rfl⟩
    go_wp2_with fail
    refine A0.out.mono ?_
    rintro e w2 ⟨rfl, rfl⟩
    go_wp2_with fail
    refine A1.out.mono ?_
    rintro e w3 ⟨rfl, rfl⟩
    go_wp2_with fail
    refine A2.out.mono ?_
    rintro e w4 ⟨rfl, rfl⟩
    go_wp2_with fail
    go_ret
    exact ⟨_, rfl, .inl ⟨rfl, rfl⟩, Below.refl _ _⟩
  | [k], _, hn =>
    have hk := hn k (by simp)
    have A0 := hid (at_chain Ad p 0 _ _ W (sent_chn Ad W.heap.size k W hk))
    clear hn hk
    unfold errV
    go_enter Tryd.func42, Tryd.ntmps42
    go_wp2_with fail
    refine IT.out.mono ?_
    rintro e w1 ⟨rfl, rfl⟩
    go_wp2_with fail
    refine A0.out.mono ?_
    rintro e w2 ⟨v2, rfl, h2, b2⟩
    have A1 := hid (at_chain Ad (dig i) _ _ _ w2 h2)
    have B2 := hid b2
    clear h2 b2 A0
    go_wp2_with fail
    refine A1.out.mono ?_
    rintro e w3 ⟨v3, rfl, h3, b3⟩
    have A2 := hid (at_chain Ad l _ _ _ w3 h3)
    have B3 := hid (B2.out.trans (b3.mono B2.out.size))
    clear h3 b3 A1 B2
    go_wp2_with fail
    refine A2.out.mono ?_
    rintro e w4 ⟨v4, rfl, h4, b4⟩
    have H4 := hid h4
    have B4 := hid (B3.out.trans (b4.mono B3.out.size))
    clear h4 b4 A2 B3
    go_wp2_with fail
    go_ret
    exact ⟨_, rfl, .inr ⟨_, rfl, H4.out⟩, B4.out⟩
  | _ :: _ :: _, h, _ => simp at h
set_option maxHeartbeats 800000 in
theorem toomany_any (Ad : Nat → Addr) (W : World) (hE : Env8 W Ad) (l : ByteArray) (n m : Int) :
    Calls Tryd.prog 41 #[.string l, .int .i64 n, .int .i64 m] W fun e W' => ∃ v', e = .returned v' ∧ One Ad W'.heap.size W' v' (if m < n then [([l], 4)] else []) ∧ Below W.heap.size W W' := by
  have e4 : W.cell? ⟨3, 0, none⟩ = some (.iface 154 (.pointer (some (Ad 4)))) := hE.cell 4 (by decide) (by decide)
  clear hE
  by_cases h : m < n
  · have A0 := hid (at_chain Ad l 0 _ _ W (sent_chn Ad W.heap.size 4 W (by decide)))
    rw [if_pos h]
    go_enter Tryd.func41, Tryd.ntmps41
    go_wp2_with fail
    refine A0.out.mono ?_
    rintro e w2 ⟨v2, rfl, h2, b2⟩
    have H2 := hid h2
    have B2 := hid b2
    clear h2 b2
    go_wp2_with fail
    go_ret
    exact ⟨_, rfl, .inr ⟨_, rfl, ⟨H2.out.1, H2.out.2.1, H2.out.2.2.1, by simp⟩⟩, B2.out⟩
  · rw [if_neg h]
    go_enter Tryd.func41, Tryd.ntmps41
    go_wp2_with fail
    go_ret
    exact ⟨_, rfl, .inl ⟨rfl, rfl⟩, Below.refl _ _⟩
/-- A component. -/
structure Cmp where
  s : ByteArray
  wd : Int
  rb : Bool
  d0 : Int
  d1 : Int
  d2 : Int
  d3 : Int
def Cmp.val (c : Cmp) : Value := .agg #[.string c.s, .int .i64 c.wd, .bool c.rb, .int .i64 c.d0, .int .i64 c.d1, .int .i64 c.d2, .int .i64 c.d3]
def wOk (c : Cmp) : Bool := decide (1 ≤ c.wd) && decide (c.wd ≤ 4)
theorem wOk_no (c : Cmp) (h : ¬ (1 ≤ c.wd ∧ c.wd ≤ 4)) : wOk c = false := by
  unfold wOk
  by_cases h1 : 1 ≤ c.wd
  · have h2 : ¬ c.wd ≤ 4 := fun h2 => h ⟨h1, h2⟩
    simp [h2]
  · simp [h1]
theorem wOk_yes (c : Cmp) (h : 1 ≤ c.wd ∧ c.wd ≤ 4) : wOk c = true := by
  unfold wOk
  simp [h.1, h.2]
set_option maxHeartbeats 800000 in
theorem fits_any (W : World) (c : Cmp) : Calls Tryd.prog 56 #[c.val] W fun e W' => e = .returned (.bool (wOk c)) ∧ Below W.heap.size W W' := by
  by_cases h : 1 ≤ c.wd ∧ c.wd ≤ 4
  · rw [wOk_yes c h]
    obtain ⟨s, wd, rb, d0, d1, d2, d3⟩ := c
    obtain ⟨h1, h2⟩ := h
    simp only [] at h1 h2
    unfold Cmp.val
    go_enter Tryd.func56, Tryd.ntmps56
    go_wp2_with fail
    go_ret
    exact ⟨rfl, (Below.refl _ _).alloc (Nat.le_refl _) _⟩
  · rw [wOk_no c h]
    obtain ⟨s, wd, rb, d0, d1, d2, d3⟩ := c
    simp only [] at h
    unfold Cmp.val
    by_cases h1 : 1 ≤ wd
    · have h2 : ¬ wd ≤ 4 := fun h2 => h ⟨h1, h2⟩
      clear h
      go_enter Tryd.func56, Tryd.ntmps56
      go_wp2_with fail
      go_ret
      exact ⟨rfl, (Below.refl _ _).alloc (Nat.le_refl _) _⟩
    · clear h
      go_enter Tryd.func56, Tryd.ntmps56
      go_wp2_with fail
      go_ret
      exact ⟨rfl, (Below.refl _ _).alloc (Nat.le_refl _) _⟩
def wErr (c : Cmp) : List Nat := if wOk c then [] else [1]
set_option maxHeartbeats 800000 in
theorem width_any (Ad : Nat → Addr) (W : World) (hE : Env8 W Ad) (c : Cmp) : Calls Tryd.prog 44 #[c.val] W fun e W' => e = .returned (errV Ad (wErr c)) ∧ Below W.heap.size W W' := by
  have HE := hid hE
  clear hE
  have FC := hid (fun W' => fits_any W' c)
  cases hw : wOk c with
  | true =>
    rw [show errV Ad (wErr c) = .nilIface by simp [wErr, hw, errV]]
    rw [hw] at FC
    clear hw
    obtain ⟨s, wd, rb, d0, d1, d2, d3⟩ := c
    unfold Cmp.val at FC ⊢
    have BA : Hid (Below W.heap.size W (W.alloc (.cells #[.string s, .int .i64 wd, .bool rb, .int .i64 d0, .int .i64 d1, .int .i64 d2, .int .i64 d3] 80))) := (Below.refl _ _).alloc (Nat.le_refl _) _
    go_enter Tryd.func44, Tryd.ntmps44
    go_wp2_with fail
    refine (FC.out _).mono ?_
    rintro e w1 ⟨rfl, hb1⟩
    have B1 := hid (BA.out.trans (hb1.mono BA.out.size))
    clear hb1 FC
    go_wp2_with fail
    go_ret
    exact ⟨rfl, B1.out⟩
  | false =>
    rw [show errV Ad (wErr c) = .iface 154 (.pointer (some (Ad 1))) by simp [wErr, hw, errV]]
    rw [hw] at FC
    clear hw
    obtain ⟨s, wd, rb, d0, d1, d2, d3⟩ := c
    unfold Cmp.val at FC ⊢
    have BA : Hid (Below W.heap.size W (W.alloc (.cells #[.string s, .int .i64 wd, .bool rb, .int .i64 d0, .int .i64 d1, .int .i64 d2, .int .i64 d3] 80))) := (Below.refl _ _).alloc (Nat.le_refl _) _
    go_enter Tryd.func44, Tryd.ntmps44
    go_wp2_with fail
    refine (FC.out _).mono ?_
    rintro e w1 ⟨rfl, hb1⟩
    have B1 := hid (BA.out.trans (hb1.mono BA.out.size))
    have e1 : w1.cell? ⟨2, 0, none⟩ = some (.iface 154 (.pointer (some (Ad 1)))) := (HE.out.later B1.out).cell 1 (by decide) (by decide)
    clear hb1 FC
    go_wp2_with fail
    go_ret
    exact ⟨rfl, B1.out⟩
set_option maxHeartbeats 800000 in
theorem nz_any (n : Int) (W : World) : Calls Tryd.prog 58 #[.int .i64 n] W fun e W' => e = .returned (.bool (n != 0)) ∧ W' = W := by
  go_enter Tryd.func58, Tryd.ntmps58
  go_wp2_with fail
  go_ret
  exact ⟨rfl, rfl⟩
/-- Numbers in memory. -/
def IntRow (W : World) (v : Value) (ds : List Int) : Prop := ∃ a c, v = .slice a ds.length c ∧ (ds = [] ∨ ∃ b o, a = some ⟨b, o, none⟩ ∧ ∀ (j : Nat) x, ds[j]? = some x → W.cell? ⟨b, o + j, none⟩ = some (.int .i64 x))
def nzB (n : Int) : Bool := n != 0
set_option maxHeartbeats 800000 in
set_option maxRecDepth 100000 in
theorem idx_any (W : World) (v : Value) (ds : List Int) (h : IntRow W v ds) (hl : ds.length ≤ 1000) :
    Calls Tryd.prog 65 #[v, .func (.func 58) #[] #[]] W fun e W' => (∃ i : Int, e = .returned (.int .i64 i) ∧ decide (0 ≤ i) = ds.any nzB) ∧ W' = W := by
  obtain ⟨a, c, rfl, h1⟩ := h
  have H1 := hid h1
  have hli : (ds.length : Int) ≤ 1000 := by omega
  clear h1
  go_enter Tryd.func65, Tryd.ntmps65
  go_wp2_with fail
  go_loop [5, 8] (fun _ i => ∃ k : Nat, k ≤ ds.length ∧ i = .int .i64 (k : Int) ∧ Hid ((ds.take k).any nzB = false)) (fun _ i => ds.length - (intOf i).toNat)
  case atStart => exact ⟨0, Nat.zero_le _, rfl, rfl⟩
  case round =>
    obtain ⟨k, hk, rfl, HN⟩ := hrel
    by_cases hlt : k < ds.length
    · have hki : (k : Int) < (ds.length : Int) := by omega
      obtain ⟨x, hx⟩ := at_lt ds k hlt
      obtain ⟨b, o, rfl, hc⟩ : ∃ b o, a = some ⟨b, o, none⟩ ∧ ∀ (j : Nat) x, ds[j]? = some x → W.cell? ⟨b, o + j, none⟩ = some (.int .i64 x) := by
        rcases H1.out with h | h
        · rw [h] at hlt; simp at hlt
        · exact h
      have c0 := hc k x hx
      have HX := hid hx
      have TN := hid (take_next hx)
      have NZ := hid (nz_any x W)
      clear hc hx
      go_wp2_with fail
      refine NZ.out.mono ?_
      rintro e w1 ⟨rfl, rfl⟩
      by_cases hz : x = 0
      · have q : (x != 0) = false := by simp [hz]
        have R : Hid ((ds.take (k + 1)).any nzB = false) := by show _ = _; rw [TN.out, List.any_append, HN.out]; simp [nzB, hz]
        rw [q]
        clear q hz NZ
        go_wp2_with fail
        go_round
        case rel => exact ⟨k + 1, by omega, by go_num, R.out⟩
        case measure => simp [intOf]; omega
      · have q : (x != 0) = true := by simp [hz]
        have R : Hid (ds.any nzB = true) := List.any_eq_true.2 ⟨x, List.mem_of_getElem? HX.out, by simp [nzB, hz]⟩
        rw [q]
        clear q hz NZ
        go_wp2_with fail
        go_ret
        exact ⟨⟨(k : Int), rfl, by rw [R.out]; simp⟩, rfl⟩
    · have hki : ¬ ((k : Int) < (ds.length : Int)) := by omega
      have R : Hid (ds.any nzB = false) := by show _ = _; rw [← HN.out, List.take_of_length_le (by omega)]
      go_wp2_with fail
      go_ret
      exact ⟨⟨-1, rfl, by rw [R.out]; rfl⟩, rfl⟩
set_option maxHeartbeats 800000 in
theorem contains_any (W : World) (v : Value) (ds : List Int) (h : IntRow W v ds) (hl : ds.length ≤ 1000) :
    Calls Tryd.prog 57 #[v, .func (.func 58) #[] #[]] W fun e W' => e = .returned (.bool (ds.any nzB)) ∧ W' = W := by
  have IC := hid (idx_any W v ds h hl)
  obtain ⟨a, c, rfl, -⟩ := h
  go_enter Tryd.func57, Tryd.ntmps57
  go_wp2_with fail
  refine IC.out.mono ?_
  rintro e w1 ⟨⟨i, rfl, hi⟩, rfl⟩
  have HI := hid hi
  clear hi IC
  go_wp2_with fail
  go_ret
  exact ⟨by rw [← HI.out]; rfl, rfl⟩
/-- Whether a default is nothing behind its width. -/
def behind (c : Cmp) : List Int := [c.d0, c.d1, c.d2, c.d3].drop c.wd.toNat
def dErr (c : Cmp) : List Nat := if wOk c && (behind c).any nzB then [1] else []
set_option maxHeartbeats 1600000 in
theorem default_any (Ad : Nat → Addr) (W : World) (hE : Env8 W Ad) (c : Cmp) : Calls Tryd.prog 45 #[c.val] W fun e W' => e = .returned (errV Ad (dErr c)) ∧ Below W.heap.size W W' := by
  have HE := hid hE
  clear hE
  have FC := hid (fun W' => fits_any W' c)
  by_cases hw : 1 ≤ c.wd ∧ c.wd ≤ 4
  · have hwt := wOk_yes c hw
    rw [hwt] at FC
    have BA : Hid (Below W.heap.size W (W.alloc (.cells #[.string c.s, .int .i64 c.wd, .bool c.rb, .int .i64 c.d0, .int .i64 c.d1, .int .i64 c.d2, .int .i64 c.d3] 80))) := (Below.refl _ _).alloc (Nat.le_refl _) _
    have CC : Hid (∀ (W' : World) (v : Value), Below (W.heap.size + 1) (W.alloc (.cells #[.string c.s, .int .i64 c.wd, .bool c.rb, .int .i64 c.d0, .int .i64 c.d1, .int .i64 c.d2, .int .i64 c.d3] 80)) W' → (∃ a cc, v = .slice a (behind c).length cc ∧ ((behind c) = [] ∨ a = some ⟨W.heap.size, 3 + c.wd.toNat, none⟩)) →
        Calls Tryd.prog 57 #[v, .func (.func 58) #[] #[]] W' fun e W'' => e = .returned (.bool ((behind c).any nzB)) ∧ W'' = W') := by
      intro W' v hb ⟨a, cc, hv, ha⟩
      refine contains_any W' v (behind c) ⟨a, cc, hv, ha.imp id fun ha => ⟨W.heap.size, 3 + c.wd.toNat, ha, fun j x hx => ?_⟩⟩ (by simp [behind]; omega)
      unfold behind at hx
      rw [List.getElem?_drop] at hx
      rw [hb.cell (p := ⟨W.heap.size, 3 + c.wd.toNat + j, none⟩) (by simp), cell_of_row _ _ _ _ 80 (0, 0) (heap_alloc_new W _)]
      rw [show 3 + c.wd.toNat + j = 3 + (c.wd.toNat + j) by omega]
      generalize c.wd.toNat + j = m at *
      match m, hx with
      | 0, hx => simpa using hx
      | 1, hx => simpa using hx
      | 2, hx => simpa using hx
      | 3, hx => simpa using hx
      | m + 4, hx => simp at hx
    have hcase : c.wd = 1 ∨ c.wd = 2 ∨ c.wd = 3 ∨ c.wd = 4 := by omega
    cases ha : (behind c).any nzB with
    | false =>
      rw [show errV Ad (dErr c) = .nilIface by simp [dErr, hwt, ha, errV]]
      rw [ha] at CC
      clear hwt ha hw
      obtain ⟨s, wd, rb, d0, d1, d2, d3⟩ := c
      simp only [] at hcase
      unfold Cmp.val at FC ⊢
      rcases hcase with rfl | rfl | rfl | rfl
      all_goals
        go_enter Tryd.func45, Tryd.ntmps45
        go_wp2_with fail
        refine (FC.out _).mono ?_
        rintro e w1 ⟨rfl, hb1⟩
        have B1 := hid (BA.out.trans (hb1.mono BA.out.size))
        have hc1 : w1.cell? ⟨W.heap.size, 1, none⟩ = _ := (hb1.cell (p := ⟨W.heap.size, 1, none⟩) (by simp)).trans (by rw [cell_of_row _ _ _ _ 80 (0, 0) (heap_alloc_new W _)])
        have CD := hid (CC.out w1)
        have HB1 := hid hb1
        clear hb1 FC CC
        go_wp2_with fail
        refine (CD.out _ (by simpa using HB1.out) ⟨_, _, rfl, by first | exact .inr rfl | exact .inl rfl⟩).mono ?_
        rintro e w2 ⟨rfl, rfl⟩
        clear CD
        go_wp2_with fail
        go_ret
        exact ⟨rfl, B1.out⟩
    | true =>
      rw [show errV Ad (dErr c) = .iface 154 (.pointer (some (Ad 1))) by simp [dErr, hwt, ha, errV]]
      rw [ha] at CC
      clear hwt ha hw
      obtain ⟨s, wd, rb, d0, d1, d2, d3⟩ := c
      simp only [] at hcase
      unfold Cmp.val at FC ⊢
      rcases hcase with rfl | rfl | rfl | rfl
      all_goals
        go_enter Tryd.func45, Tryd.ntmps45
        go_wp2_with fail
        refine (FC.out _).mono ?_
        rintro e w1 ⟨rfl, hb1⟩
        have B1 := hid (BA.out.trans (hb1.mono BA.out.size))
        have hc1 : w1.cell? ⟨W.heap.size, 1, none⟩ = _ := (hb1.cell (p := ⟨W.heap.size, 1, none⟩) (by simp)).trans (by rw [cell_of_row _ _ _ _ 80 (0, 0) (heap_alloc_new W _)])
        have e1 : w1.cell? ⟨2, 0, none⟩ = some (.iface 154 (.pointer (some (Ad 1)))) := (HE.out.later B1.out).cell 1 (by decide) (by decide)
        have CD := hid (CC.out w1)
        have HB1 := hid hb1
        clear hb1 FC CC
        go_wp2_with fail
        refine (CD.out _ (by simpa using HB1.out) ⟨_, _, rfl, by first | exact .inr rfl | exact .inl rfl⟩).mono ?_
        rintro e w2 ⟨rfl, rfl⟩
        clear CD
        go_wp2_with fail
        go_ret
        exact ⟨rfl, B1.out⟩
  · have hwf := wOk_no c hw
    rw [hwf] at FC
    rw [show errV Ad (dErr c) = .nilIface by simp [dErr, hwf, errV]]
    obtain ⟨s, wd, rb, d0, d1, d2, d3⟩ := c
    unfold Cmp.val at FC ⊢
    have BA : Hid (Below W.heap.size W (W.alloc (.cells #[.string s, .int .i64 wd, .bool rb, .int .i64 d0, .int .i64 d1, .int .i64 d2, .int .i64 d3] 80))) := (Below.refl _ _).alloc (Nat.le_refl _) _
    clear hw hwf
    go_enter Tryd.func45, Tryd.ntmps45
    go_wp2_with fail
    refine (FC.out _).mono ?_
    rintro e w1 ⟨rfl, hb1⟩
    have B1 := hid (BA.out.trans (hb1.mono BA.out.size))
    clear hb1 FC
    go_wp2_with fail
    go_ret
    exact ⟨rfl, B1.out⟩
end Go.Proofs.YtbfjijiakkopeaaDoor.Sc
