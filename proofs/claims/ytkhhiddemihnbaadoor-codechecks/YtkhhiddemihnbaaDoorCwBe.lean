/- The walk of Depths: pass. -/
import Derived.Test.YtkhhiddemihnbaaDoorCwBd
namespace Go.Proofs.YtkhhiddemihnbaaDoor.Cw
open Go.RowKit Go.Shelf
def me (d : List Int) (o : List Nat) : Nat := 2 * open' d + o.length
/-- How it stands behind a pass. -/
def PassP (l : List Ins) (B wb db M : Nat) (W' : World) (v : Value) : Prop := (v = .bool true ∧ ∃ d' o' ov', Wm B W' wb db ov' d' o' ∧ Wk l d' o' o' ∧ me d' o' ≤ M) ∨ (v = .bool false ∧ ¬ Fine l)
theorem Wk.leave {l : List Ins} {d : List Int} {o E : List Nat} {p : Nat} {n : Int} {x : Ins} (h : Wk l d o (p :: E)) (hE : ∀ q, q ∈ E → q ∈ o) (hp : d[p]? = some n) (hx : l[p]? = some x) (ho : okAt x n) (hf : ∀ q ∈ fol x p, d[q]? = some (nxt x n)) : Wk l d o o := by
  refine ⟨h.len, h.zero, h.rc, h.hi, h.op, fun r n' x' hr h1 h2 h3 => ?_⟩
  by_cases e : r = p
  · subst e
    rw [hp] at h1
    obtain rfl := Option.some.inj h1
    rw [hx] at h3
    obtain rfl := Option.some.inj h3
    exact ⟨ho, hf⟩
  · exact h.on r n' x' (fun hm => (List.mem_cons.1 hm).elim e fun q => hr (hE r q)) h1 h2 h3
theorem co_cons (d : List Int) (p q : Nat) (o : List Nat) : co d (p :: o) q = p :: co d o q := by
  unfold co
  split <;> rfl
theorem me_co {d : List Int} {o : List Nat} {q : Nat} {m : Int} (hm : 0 ≤ m) : me (cd d q m) (co d o q) ≤ me d o := come_meas hm
theorem me_len (d : List Int) (o : List Nat) : o.length ≤ me d o := Nat.le_add_left _ _
theorem toNat_int {a : Int} (h : 0 ≤ a) : ((a.toNat : Nat) : Int) = a := Int.toNat_of_nonneg h
section
variable {l : List Ins} {B wb db : Nat} {W : World} {ov : Value} {d : List Int} {o : List Nat} {p : Nat} {n : Int} {x : Ins}
/-- What an instruction comes to first: where it jumps. -/
theorem pass_jump (hK : Wk l d o (p :: o)) (hN : NoWhere l) (hp : d[p]? = some n) (h0 : 0 ≤ n) (hx : l[p]? = some x) (hj : jmp x.1 = true) :
    ∃ q : Nat, x.2.1 = (q : Int) ∧ q < d.length ∧ q ∈ fol x p ∧ Rc l q (nxt x n) := by
  have h := hN x (List.mem_of_getElem? hx)
  have hq : x.2.1.toNat ∈ fol x p := by
    unfold fol
    rw [hj]
    simp
  have hl := fol_le hN hx hq
  have hr : Rc l x.2.1.toNat (nxt x n) := by
    rcases hK.rc p n hp with h1 | ⟨_, h2⟩
    · omega
    · exact h2.next hx hq
  refine ⟨x.2.1.toNat, ?_, by rw [hK.len]; omega, hq, hr⟩
  simp [nowhere, hj, isPl] at h
  omega
theorem pass_next (hK : Wk l d o (p :: o)) (hN : NoWhere l) (hp : d[p]? = some n) (h0 : 0 ≤ n) (hx : l[p]? = some x) (hj : onw x.1 = true) :
    p + 1 < d.length ∧ Rc l (p + 1) (nxt x n) := by
  have hq : p + 1 ∈ fol x p := by
    unfold fol
    rw [hj]
    simp
  have hl := fol_le hN hx hq
  have hr : Rc l (p + 1) (nxt x n) := by
    rcases hK.rc p n hp with h1 | ⟨_, h2⟩
    · omega
    · exact h2.next hx hq
  exact ⟨by rw [hK.len]; omega, hr⟩
end
theorem fol_of {x : Ins} {p q : Nat} (h : q ∈ fol x p) : (jmp x.1 = true ∧ q = x.2.1.toNat) ∨ (onw x.1 = true ∧ q = p + 1) := by
  unfold fol at h
  rcases List.mem_append.1 h with h | h
  · split at h
    · simp at h; exact .inl ⟨by assumption, h⟩
    · simp at h
  · split at h
    · simp at h; exact .inr ⟨by assumption, h⟩
    · simp at h
/-- Behind the jump: the same, for the next place. -/
structure Mid (l : List Ins) (d1 : List Int) (o1 : List Nat) (p : Nat) (n : Int) (x : Ins) (M : Nat) : Prop where
  wk : Wk l d1 o1 (p :: o1)
  at' : d1[p]? = some n
  j : jmp x.1 = true → d1[x.2.1.toNat]? = some (nxt x n)
  m : me d1 o1 ≤ M
theorem Mid.came {l : List Ins} {d : List Int} {o : List Nat} {p q : Nat} {n : Int} {x : Ins} {M : Nat} (hK : Wk l d o (p :: o)) (hp : d[p]? = some n) (h0 : 0 ≤ n) (ho : okAt x n) (hM : me d o ≤ M) (hq : x.2.1 = (q : Int)) (hr : Rc l q (nxt x n)) (hb : cb d q (nxt x n) = true) : Mid l (cd d q (nxt x n)) (co d o q) p n x M := by
  refine ⟨?_, cd_keeps hp h0, fun _ => ?_, Nat.le_trans (me_co ho.low) hM⟩
  · have := hK.come hr ho.low ho.2
    rwa [co_cons] at this
  · rw [hq, Int.toNat_natCast]
    exact cb_yes hb
theorem Mid.none {l : List Ins} {d : List Int} {o : List Nat} {p : Nat} {n : Int} {x : Ins} {M : Nat} (hK : Wk l d o (p :: o)) (hp : d[p]? = some n) (hM : me d o ≤ M) (hj : jmp x.1 = false) : Mid l d o p n x M := ⟨hK, hp, fun h => (by rw [hj] at h; cases h), hM⟩
theorem Mid.done {l : List Ins} {d : List Int} {o : List Nat} {p : Nat} {n : Int} {x : Ins} {M : Nat} (h : Mid l d o p n x M) (hx : l[p]? = some x) (ho : okAt x n) (hj : onw x.1 = false) : Wk l d o o := by
  refine h.wk.leave (fun _ q => q) h.at' hx ho fun q hq => ?_
  rcases fol_of hq with ⟨h1, rfl⟩ | ⟨h1, _⟩
  · exact h.j h1
  · rw [hj] at h1; cases h1
theorem Mid.next {l : List Ins} {d : List Int} {o : List Nat} {p : Nat} {n : Int} {x : Ins} {M : Nat} (h : Mid l d o p n x M) (h0 : 0 ≤ n) (hx : l[p]? = some x) (ho : okAt x n) (hr : Rc l (p + 1) (nxt x n)) (hb : cb d (p + 1) (nxt x n) = true) : Wk l (cd d (p + 1) (nxt x n)) (co d o (p + 1)) (co d o (p + 1)) := by
  have hk := h.wk.come hr ho.low ho.2
  rw [co_cons] at hk
  refine hk.leave (fun _ q => q) (cd_keeps h.at' h0) hx ho fun q hq => ?_
  rcases fol_of hq with ⟨h1, rfl⟩ | ⟨h1, rfl⟩
  · exact cd_keeps (h.j h1) ho.low
  · exact cb_yes hb
set_option maxHeartbeats 3200000 in
set_option maxRecDepth 100000 in
theorem pass_any {l : List Ins} {B wb db : Nat} {W : World} {ov : Value} {d : List Int} {o : List Nat} {p : Nat} {n : Int} {x : Ins} (hO : OpsAt W) (hM : Wm B W wb db ov d o) (hK : Wk l d o (p :: o)) (hN : NoWhere l) (hp : d[p]? = some n) (h0 : 0 ≤ n) (hx : l[p]? = some x) (hll : l.length ≤ 1000) (hme : me d o ≤ 4000) :
    Calls Tryd.prog 41 #[.pointer (some ⟨wb, 0, none⟩), .int .i64 (p : Int), iV x] W fun e W' => ∃ v, e = .returned v ∧ PassP l B wb db (me d o) W' v ∧ Below B W W' := by
  have HM := hid hM
  have HK := hid hK
  have HN := hid hN
  have HP := hid hp
  have HX := hid hx
  have HME := hid hme
  have hBW : B ≤ W.heap.size := by have := hM.lt; have := hM.low; omega
  have hpl : p < d.length := (List.getElem?_eq_some_iff.1 hp).1
  have hpb : (p : Int) < 1001 := by have := hK.len; omega
  have hpd : (p : Int) < (d.length : Int) := by omega
  have h16 := hK.hi p n hp
  have ht0 := takes_low x.1
  have ht3 := takes_high x.1
  have hy0 := lays_low x.1
  have hy3 := lays_high x.1
  have OKD : Hid (okAt x n ↔ (takes x.1 ≤ n ∧ n - takes x.1 + lays x.1 ≤ 16)) := Iff.rfl
  have NX : Hid (nxt x n = n - takes x.1 + lays x.1) := rfl
  have PJ := hid (fun hj => pass_jump (x := x) hK hN hp h0 hx hj)
  have PN := hid (fun hj => pass_next (x := x) hK hN hp h0 hx hj)
  have RCP : Hid (Rc l p n) := by
    rcases hK.rc p n hp with h | ⟨_, h⟩
    · show Rc l p n; omega
    · exact h
  obtain ⟨op, a, b⟩ := x
  have BA : Hid (Below W.heap.size W (W.alloc (.cells #[.int .i64 op, .int .i64 a, .int .i64 b] 59))) := (Below.refl _ _).alloc (Nat.le_refl _) _
  have MV := hid (moves_any _ (hO.later BA.out) op)
  have JU := hid (fun W' => jumps_any W' op)
  clear hM hK hN hp hx hme hO
  unfold iV
  simp only [] at *
  by_cases hok : takes op ≤ n
  · have hleft : Hid (0 ≤ n - takes op) := by show _ ≤ _; omega
    by_cases hok2 : n - takes op + lays op ≤ 16
    · have OK : Hid (okAt (op, a, b) n) := OKD.out.2 ⟨hok, hok2⟩
      clear OKD
      have hmlo : Hid (0 ≤ n - takes op + lays op) := by have := OK.out.low; show _ ≤ _; rw [← NX.out]; exact this
      cases hj : jmp op with
      | true =>
        obtain ⟨q, ha, hq, hqf, hr⟩ := PJ.out hj
        have hqi : a = (q : Int) := ha
        subst hqi
        have HR := hid hr
        rw [NX.out] at HR
        clear PJ hqf hr ha
        cases hn : onw op with
        | true =>
          obtain ⟨hp1, hr1⟩ := PN.out hn
          have HR1 := hid hr1
          have HJ := hid hj
          have HN1 := hid hn
          rw [hj, hn] at JU
          clear PN hr1 hj hn
          have hpl1 : (p : Int) + 1 = ((p + 1 : Nat) : Int) := by omega
          generalize takes op = t at *
          generalize lays op = y at *
          go_enter Tryd.func41, Tryd.ntmps41
          go_wp2_with fail
          refine MV.out.mono ?_
          rintro e w1 ⟨rfl, hb1⟩
          have B1 := hid (BA.out.trans (hb1.mono BA.out.size))
          have M1 := hid (HM.out.later B1.out)
          have c0 := M1.out.c0
          have c2 := M1.out.cd HP.out
          have k0 : w1.cell? ⟨W.heap.size, 0, none⟩ = some (.int .i64 op) := (hb1.cell (p := ⟨W.heap.size, 0, none⟩) (by simp)).trans (by rw [cell_of_row _ _ _ _ 59 (0, 0) (heap_alloc_new W _)]; rfl)
          have j1 : w1.cell? ⟨W.heap.size, 1, none⟩ = some (.int .i64 (q : Int)) := (hb1.cell (p := ⟨W.heap.size, 1, none⟩) (by simp)).trans (by rw [cell_of_row _ _ _ _ 59 (0, 0) (heap_alloc_new W _)]; rfl)
          clear hb1 MV
          go_wp2_with fail
          refine (JU.out _).mono ?_
          rintro e w2 ⟨rfl, hb2⟩
          have B2 := hid (B1.out.trans (hb2.mono B1.out.size))
          have M2 := hid (M1.out.later hb2)
          have i1 := seen hb2 (Nat.le_refl _) j1
          have DB2 := hid (B2.out.mono hBW)
          clear hb2 JU c0 c2 k0 j1
          have CM := hid (come_any M2.out q hq (n - t + y) (Nat.le_trans (me_len d o) (by have := HME.out; omega)))
          go_wp2_with fail
          refine CM.out.mono ?_
          rintro e w3 ⟨rfl, ⟨ov1, hm3⟩, hb3⟩
          have M3 := hid hm3
          have B3 := hid (DB2.out.trans hb3)
          clear hm3 hb3 CM i1
          cases hcb : cb d q (n - t + y) with
          | false =>
            have NF : Hid (¬ Fine l) := come_no HK.out HR.out (by have := HK.out.len; omega) hcb
            clear hcb
            go_wp2_with fail
            go_ret
            exact ⟨_, rfl, .inr ⟨rfl, NF.out⟩, B3.out⟩
          | true =>
            have MI : Hid (Mid l (cd d q (n - t + y)) (co d o q) p n (op, (q : Int), b) (me d o)) := by
              have h := Mid.came (q := q) HK.out HP.out h0 OK.out (Nat.le_refl _) rfl (by rw [NX.out]; exact HR.out) (by rw [NX.out]; exact hcb)
              rw [NX.out] at h
              exact h
            clear hcb
            have hl1 : p + 1 < (cd d q (n - t + y)).length := by rw [cd_len]; exact hp1
            have CM := hid (come_any M3.out (p + 1) hl1 (n - t + y) (Nat.le_trans (me_len _ _) (Nat.le_trans MI.out.m (by have := HME.out; omega))))
            rw [← hpl1] at CM
            have HL1 := hid hl1
            clear hpl1 hl1
            generalize hd1 : cd d q (n - t + y) = d1 at *
            generalize ho1 : co d o q = o1 at *
            clear hd1 ho1
            go_wp2_with fail
            refine CM.out.mono ?_
            rintro e w4 ⟨rfl, ⟨ov2, hm4⟩, hb4⟩
            have M4 := hid hm4
            have B4 := hid (B3.out.trans hb4)
            clear hm4 hb4 CM
            cases hcb : cb d1 (p + 1) (n - t + y) with
            | false =>
              have NF : Hid (¬ Fine l) := come_no MI.out.wk (by rw [← NX.out]; exact HR1.out) (by have := MI.out.wk.len; have := HL1.out; omega) hcb
              clear hcb
              go_wp2_with fail
              go_ret
              exact ⟨_, rfl, .inr ⟨rfl, NF.out⟩, B4.out⟩
            | true =>
              have WK : Hid (Wk l (cd d1 (p + 1) (n - t + y)) (co d1 o1 (p + 1)) (co d1 o1 (p + 1))) := by
                have h := MI.out.next h0 HX.out OK.out HR1.out (by rw [NX.out]; exact hcb)
                rw [NX.out] at h
                exact h
              have ME : Hid (me (cd d1 (p + 1) (n - t + y)) (co d1 o1 (p + 1)) ≤ me d o) := Nat.le_trans (me_co hmlo.out) MI.out.m
              clear hcb
              go_wp2_with fail
              go_ret
              exact ⟨_, rfl, .inl ⟨rfl, _, _, _, M4.out, WK.out, ME.out⟩, B4.out⟩
        | false =>
          have HJ := hid hj
          have HN1 := hid hn
          rw [hj, hn] at JU
          clear PN hj hn
          generalize takes op = t at *
          generalize lays op = y at *
          go_enter Tryd.func41, Tryd.ntmps41
          go_wp2_with fail
          refine MV.out.mono ?_
          rintro e w1 ⟨rfl, hb1⟩
          have B1 := hid (BA.out.trans (hb1.mono BA.out.size))
          have M1 := hid (HM.out.later B1.out)
          have c0 := M1.out.c0
          have c2 := M1.out.cd HP.out
          have k0 : w1.cell? ⟨W.heap.size, 0, none⟩ = some (.int .i64 op) := (hb1.cell (p := ⟨W.heap.size, 0, none⟩) (by simp)).trans (by rw [cell_of_row _ _ _ _ 59 (0, 0) (heap_alloc_new W _)]; rfl)
          have j1 : w1.cell? ⟨W.heap.size, 1, none⟩ = some (.int .i64 (q : Int)) := (hb1.cell (p := ⟨W.heap.size, 1, none⟩) (by simp)).trans (by rw [cell_of_row _ _ _ _ 59 (0, 0) (heap_alloc_new W _)]; rfl)
          clear hb1 MV
          go_wp2_with fail
          refine (JU.out _).mono ?_
          rintro e w2 ⟨rfl, hb2⟩
          have B2 := hid (B1.out.trans (hb2.mono B1.out.size))
          have M2 := hid (M1.out.later hb2)
          have i1 := seen hb2 (Nat.le_refl _) j1
          have DB2 := hid (B2.out.mono hBW)
          clear hb2 JU c0 c2 k0 j1
          have CM := hid (come_any M2.out q hq (n - t + y) (Nat.le_trans (me_len d o) (by have := HME.out; omega)))
          go_wp2_with fail
          refine CM.out.mono ?_
          rintro e w3 ⟨rfl, ⟨ov1, hm3⟩, hb3⟩
          have M3 := hid hm3
          have B3 := hid (DB2.out.trans hb3)
          clear hm3 hb3 CM i1
          cases hcb : cb d q (n - t + y) with
          | false =>
            have NF : Hid (¬ Fine l) := come_no HK.out HR.out (by have := HK.out.len; omega) hcb
            clear hcb
            go_wp2_with fail
            go_ret
            exact ⟨_, rfl, .inr ⟨rfl, NF.out⟩, B3.out⟩
          | true =>
            have MI : Hid (Mid l (cd d q (n - t + y)) (co d o q) p n (op, (q : Int), b) (me d o)) := by
              have h := Mid.came (q := q) HK.out HP.out h0 OK.out (Nat.le_refl _) rfl (by rw [NX.out]; exact HR.out) (by rw [NX.out]; exact hcb)
              rw [NX.out] at h
              exact h
            have WK := hid (MI.out.done HX.out OK.out HN1.out)
            clear hcb
            go_wp2_with fail
            go_ret
            exact ⟨_, rfl, .inl ⟨rfl, _, _, _, M3.out, WK.out, MI.out.m⟩, B3.out⟩
      | false =>
        have HJ := hid hj
        have MI : Hid (Mid l d o p n (op, a, b) (me d o)) := Mid.none HK.out HP.out (Nat.le_refl _) hj
        clear PJ
        cases hn : onw op with
        | true =>
          obtain ⟨hp1, hr1⟩ := PN.out hn
          have HR1 := hid hr1
          rw [hj, hn] at JU
          clear PN hr1 hj hn
          have hpl1 : (p : Int) + 1 = ((p + 1 : Nat) : Int) := by omega
          generalize takes op = t at *
          generalize lays op = y at *
          go_enter Tryd.func41, Tryd.ntmps41
          go_wp2_with fail
          refine MV.out.mono ?_
          rintro e w1 ⟨rfl, hb1⟩
          have B1 := hid (BA.out.trans (hb1.mono BA.out.size))
          have M1 := hid (HM.out.later B1.out)
          have c0 := M1.out.c0
          have c2 := M1.out.cd HP.out
          have k0 : w1.cell? ⟨W.heap.size, 0, none⟩ = some (.int .i64 op) := (hb1.cell (p := ⟨W.heap.size, 0, none⟩) (by simp)).trans (by rw [cell_of_row _ _ _ _ 59 (0, 0) (heap_alloc_new W _)]; rfl)
          have j1 : w1.cell? ⟨W.heap.size, 1, none⟩ = some (.int .i64 a) := (hb1.cell (p := ⟨W.heap.size, 1, none⟩) (by simp)).trans (by rw [cell_of_row _ _ _ _ 59 (0, 0) (heap_alloc_new W _)]; rfl)
          clear hb1 MV
          go_wp2_with fail
          refine (JU.out _).mono ?_
          rintro e w2 ⟨rfl, hb2⟩
          have B2 := hid (B1.out.trans (hb2.mono B1.out.size))
          have M2 := hid (M1.out.later hb2)
          have i1 := seen hb2 (Nat.le_refl _) j1
          have DB2 := hid (B2.out.mono hBW)
          clear hb2 JU c0 c2 k0 j1
          have CM := hid (come_any M2.out (p + 1) hp1 (n - t + y) (Nat.le_trans (me_len d o) (by have := HME.out; omega)))
          rw [← hpl1] at CM
          clear hpl1
          go_wp2_with fail
          refine CM.out.mono ?_
          rintro e w4 ⟨rfl, ⟨ov2, hm4⟩, hb4⟩
          have M4 := hid hm4
          have B4 := hid (DB2.out.trans hb4)
          clear hm4 hb4 CM
          cases hcb : cb d (p + 1) (n - t + y) with
          | false =>
            have NF : Hid (¬ Fine l) := come_no MI.out.wk (by rw [← NX.out]; exact HR1.out) (by have := HK.out.len; omega) hcb
            clear hcb
            go_wp2_with fail
            go_ret
            exact ⟨_, rfl, .inr ⟨rfl, NF.out⟩, B4.out⟩
          | true =>
            have WK : Hid (Wk l (cd d (p + 1) (n - t + y)) (co d o (p + 1)) (co d o (p + 1))) := by
              have h := MI.out.next h0 HX.out OK.out HR1.out (by rw [NX.out]; exact hcb)
              rw [NX.out] at h
              exact h
            have ME : Hid (me (cd d (p + 1) (n - t + y)) (co d o (p + 1)) ≤ me d o) := me_co hmlo.out
            clear hcb
            go_wp2_with fail
            go_ret
            exact ⟨_, rfl, .inl ⟨rfl, _, _, _, M4.out, WK.out, ME.out⟩, B4.out⟩
        | false =>
          have WK := hid (MI.out.done HX.out OK.out hn)
          rw [hj, hn] at JU
          clear PN hj hn
          generalize takes op = t at *
          generalize lays op = y at *
          go_enter Tryd.func41, Tryd.ntmps41
          go_wp2_with fail
          refine MV.out.mono ?_
          rintro e w1 ⟨rfl, hb1⟩
          have B1 := hid (BA.out.trans (hb1.mono BA.out.size))
          have M1 := hid (HM.out.later B1.out)
          have c0 := M1.out.c0
          have c2 := M1.out.cd HP.out
          have k0 : w1.cell? ⟨W.heap.size, 0, none⟩ = some (.int .i64 op) := (hb1.cell (p := ⟨W.heap.size, 0, none⟩) (by simp)).trans (by rw [cell_of_row _ _ _ _ 59 (0, 0) (heap_alloc_new W _)]; rfl)
          have j1 : w1.cell? ⟨W.heap.size, 1, none⟩ = some (.int .i64 a) := (hb1.cell (p := ⟨W.heap.size, 1, none⟩) (by simp)).trans (by rw [cell_of_row _ _ _ _ 59 (0, 0) (heap_alloc_new W _)]; rfl)
          clear hb1 MV
          go_wp2_with fail
          refine (JU.out _).mono ?_
          rintro e w2 ⟨rfl, hb2⟩
          have B2 := hid (B1.out.trans (hb2.mono B1.out.size))
          have M2 := hid (M1.out.later hb2)
          have i1 := seen hb2 (Nat.le_refl _) j1
          have DB2 := hid (B2.out.mono hBW)
          clear hb2 JU c0 c2 k0 j1
          go_wp2_with fail
          go_ret
          exact ⟨_, rfl, .inl ⟨rfl, _, _, _, M2.out, WK.out, Nat.le_refl _⟩, DB2.out⟩
    · have NF : Hid (¬ Fine l) := fun hf => hok2 (OKD.out.1 (hf.2.1 p n _ RCP.out HX.out)).2
      generalize takes op = t at *
      generalize lays op = y at *
      have hgt : 16 < n - t + y := by omega
      clear hok2
      go_enter Tryd.func41, Tryd.ntmps41
      go_wp2_with fail
      refine MV.out.mono ?_
      rintro e w1 ⟨rfl, hb1⟩
      have B1 := hid (BA.out.trans (hb1.mono BA.out.size))
      have M1 := hid (HM.out.later B1.out)
      have c0 := M1.out.c0
      have c2 := M1.out.cd HP.out
      clear hb1 MV
      go_wp2_with fail
      go_ret
      exact ⟨_, rfl, .inr ⟨rfl, NF.out⟩, B1.out.mono hBW⟩
  · have NF : Hid (¬ Fine l) := fun hf => hok (OKD.out.1 (hf.2.1 p n _ RCP.out HX.out)).1
    generalize takes op = t at *
    generalize lays op = y at *
    go_enter Tryd.func41, Tryd.ntmps41
    go_wp2_with fail
    refine MV.out.mono ?_
    rintro e w1 ⟨rfl, hb1⟩
    have B1 := hid (BA.out.trans (hb1.mono BA.out.size))
    have M1 := hid (HM.out.later B1.out)
    have c0 := M1.out.c0
    have c2 := M1.out.cd HP.out
    clear hb1 MV
    go_wp2_with fail
    go_ret
    exact ⟨_, rfl, .inr ⟨rfl, NF.out⟩, B1.out.mono hBW⟩
end Go.Proofs.YtkhhiddemihnbaaDoor.Cw
