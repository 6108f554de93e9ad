/- Texts in one. -/
import Derived.Test.YtagjmggiaffihaaGreatDoorMan
namespace Go.Proofs.YtagjmggiaffihaaGreatDoor.So
open Go.RowKit Go.Shelf Go.Maps
open Go.Proofs.YtagjmggiaffihaaGreatDoor.Co (I64 I64_mid Pt)
open Go.Proofs.YtagjmggiaffihaaGreatDoor.At (St bAl cell_blk blk_seen blk_free Err an wi mtB bits_and32 bits_an32)
open Go.Proofs.YtagjmggiaffihaaGreatDoor.Ro (RS Ents)
open Go.Proofs.YtagjmggiaffihaaGreatDoor.Rs (SD mskP Prt Prts PRow okL fitP remP insP)
set_option maxHeartbeats 800000 in
set_option maxRecDepth 100000 in
theorem is_none (W : World) (b : Addr) : Calls Tryz.prog 13 #[.nilIface, .iface 278 (.pointer (some b))] W fun e W' => e = .returned (.bool false) ∧ W' = W := by
  have hq : ∀ w, (binOp .eql 31 .nilIface (.iface 278 (.pointer (some b)))).run Tryz.prog w = .ok (.bool false) w := fun w => rfl
  go_enter Tryz.func13, Tryz.ntmps13
  go_wp2_with fail
  go_ret
  exact ⟨rfl, rfl⟩
section
variable {W1 w w' : World} {sb : Nat} {s : SD} {t : Nat} {fr : List (Nat × Obj)} {Ad : Nat → Addr}
theorem Aw.beside (h : Aw W1 sb s t fr w) {v : Value} {l : List Prt} (hv : Prts w.heap.size w' v l) (hb : Below w.heap.size w w') :
    ∃ fr0, Aw W1 sb s t (fr0 ++ fr) w' ∧ (∀ k, v.ownBlock = some k → ∃ o, (k, o) ∈ fr0) ∧ ∀ s3 t3 fr3 w3, (∀ x ∈ fr0, x ∈ fr3) → Aw W1 sb s3 t3 fr3 w3 → Prts w.heap.size w3 v l := by
  obtain ⟨fr0, x1, x2, x3⟩ := own_fr hv
  obtain ⟨c, e1, e2, e3⟩ := h.ex
  refine ⟨fr0, ⟨⟨c, e1.later hb, e2, fun x hx => ?_⟩, (h.later hb).bel⟩, x2, fun s3 t3 fr3 w3 hs h3 => x3 w3 fun x hx => h3.at (hs x hx)⟩
  rcases List.mem_append.1 hx with hx | hx
  · refine ⟨Classical.byContradiction fun q => ?_, (x1 x hx).1⟩
    have := (e1.lt _ q).2
    have := (hv.lt _ (x1 x hx).2).1
    omega
  · exact (e3 x hx).later hb
theorem aw_next2 {n i : Nat} {L : Nat → List Prt} (h : Aw W1 sb s t fr w) (hE : Env8 W1 Ad) (ht : t ≤ 900) (hR : Run n i L s) (hi : i < n) {v : Value} {m : Nat} {x : Int} {N : Nat} (hL : L i = lawL m x 8) (hv : Prts N w v (lawL m x 8)) (hin : ∀ k, v.ownBlock = some k → ∃ o, (k, o) ∈ fr) :
    Calls Tryz.prog 16 #[.pointer (some ⟨sb, 0, none⟩), v] w fun e w2 => e = .returned (.tuple #[.agg #[.int .i64 (i : Int), .int .i64 1], .nilIface]) ∧ ∃ s', Run n (i + 1) L s' ∧ Aw W1 sb s' (t + 1) fr w2 := by
  have hl := lawL_len m x 8
  obtain ⟨c, e1, e2, e3⟩ := h.ex
  refine (spawn_ok Ad e1 (h.env hE) (prow_out hv fun k hk q => ?_) (by omega) (by rw [hR.ws]; exact law_chk m x) (law_tick m x) (hR.split hi) (by omega)).mono ?_
  · obtain ⟨o, ho⟩ := hin k hk
    exact q (e3 _ ho).1
  · rintro e w2 ⟨rfl, c', q1, q2, q3⟩
    have A := Aw.go e1 e3 h.bel q1 (t' := t + 1) (by omega) q3
    rw [law_sort, ← hL] at A
    exact ⟨by rw [hR.zero hi]; rfl, _, hR.step hi, A⟩
theorem aw_parts2 (h : Aw W1 sb s t fr w) {i g : Nat} (ha : al s i g) : Calls Tryz.prog 42 #[.pointer (some ⟨sb, 0, none⟩), .agg #[.int .i64 (i : Int), .int .i64 (g : Int)]] w fun e w2 => ∃ va vc, e = .returned (.tuple #[.slice va (s.at i).length vc, .nilIface]) ∧ PRow w2 (.slice va (s.at i).length vc) (s.at i) ∧ Aw W1 sb s t fr w2 := by
  refine (aw_parts h ha).mono ?_
  rintro e w2 ⟨v, rfl, q1, q2, -⟩
  obtain ⟨va, vc, rfl⟩ := q1.slice
  exact ⟨va, vc, rfl, q1.row, q2⟩
theorem aw_remno (h : Aw W1 sb s t fr w) (hE : Env8 W1 Ad) {i g : Nat} (ha : al s i g) (comp : Int) (hc : I64 comp) (hno : ∀ p ∈ s.at i, p.c ≠ comp) :
    Calls Tryz.prog 23 #[.pointer (some ⟨sb, 0, none⟩), .agg #[.int .i64 (i : Int), .int .i64 (g : Int)], .int .i64 comp] w fun e w2 => ∃ tt qq, e = .returned (.tuple #[.agg #[.int .i64 0, .int .i64 0, .int .i64 0, .int .i64 0, .int .i64 0, .int .i64 0], .iface tt qq]) ∧ Er Ad w2 (.iface tt qq) 7 ∧ Below w.heap.size w w2 := by
  obtain ⟨c, e1, e2, e3⟩ := h.ex
  refine (remove_err (k := 7) (by omega) fun W' hb => get_none (e1.later hb) ((h.env hE).later hb) ha comp hc hno).mono ?_
  rintro e w2 ⟨r, rfl, q1, q2⟩
  rcases q1 with ⟨e, -⟩ | ⟨h7, tt, qq, rfl, q1⟩
  · omega
  · exact ⟨tt, qq, rfl, .inr ⟨h7, tt, qq, rfl, q1⟩, q2⟩
end
theorem fit_one {c : Nat} (hc : c < 8) (v t : Int) : fitP ones ⟨(c : Int), v, 0, 0, 0, t⟩ = true := by
  have hw : ones[c]? = some 1 := by
    have : c = 0 ∨ c = 1 ∨ c = 2 ∨ c = 3 ∨ c = 4 ∨ c = 5 ∨ c = 6 ∨ c = 7 := by omega
    rcases this with rfl | rfl | rfl | rfl | rfl | rfl | rfl | rfl <;> rfl
  rw [Rs.fit_in (p := ⟨(c : Int), v, 0, 0, 0, t⟩) rfl hw]
  rfl
theorem law_ok (m : Nat) (v : Int) : okL ones (lawL m v 8) :=
  ⟨lawL_sorted m v 8, fun x hx => by
    obtain ⟨j, h1, -, rfl⟩ := (lawL_mem m v 8 x).1 hx
    show (0 : Int) ≤ (j : Int) ∧ (j : Int) < ((8 : Nat) : Int)
    omega⟩
theorem law_no {m c : Nat} {v : Int} (h : m.testBit c = false) : ∀ q ∈ lawL m v 8, q.c ≠ (c : Int) := fun q hq e => by
  obtain ⟨j, h1, h2, rfl⟩ := (lawL_mem m v 8 q).1 hq
  have e : (j : Int) = (c : Int) := e
  obtain rfl : j = c := by omega
  rw [h] at h2
  cases h2
set_option maxHeartbeats 12800000 in
set_option maxRecDepth 100000 in
theorem moves_law (w : World) (Ad : Nat → Addr) (hE : Env8 w Ad) (m : Nat) (hm : m < 4294967296) (comp value : Int) :
    Calls Tryz.prog 5 #[.int .u32 (m : Int), .int .i64 comp, .int .i64 value] w fun e w' => e = .returned (.bool true) ∧ Below w.heap.size w w' := by
  obtain ⟨u, c, hc, hu, hr⟩ := rem_at comp 8 (by decide)
  have hr : u.tmod 8 = (c : Int) := hr
  have hci : (c : Int) ≤ 7 := by omega
  have AW := hid (awake_any Ad w hE)
  have HE := hid hE
  have ha8 := and8 m hm
  have hma8 : m % 256 < 256 := Nat.mod_lt _ (by decide)
  obtain ⟨ma, hma⟩ : ∃ ma, ma = m % 256 := ⟨_, rfl⟩
  rw [← hma] at ha8 hma8
  clear hE hm hma
  go_enter Tryz.func5, Tryz.ntmps5
  go_wp2_with fail
  refine AW.out.mono ?_
  rintro e w1 ⟨rfl, b1⟩
  have B1 := hid b1
  have WD := hid (wide_any w1)
  clear AW b1
  go_wp2_with fail
  refine WD.out.mono ?_
  rintro e w2 ⟨va, rfl, hC, hb2⟩
  have B2 := hid (B1.out.trans (hb2.mono B1.out.size))
  have E2 := hid (HE.out.later B2.out)
  have NW := hid (new_ok Ad w2 va (.slice none 0 0) (wideL 8) [] E2.out hC ⟨none, 0, rfl, Nat.le_refl _, .inl rfl⟩ wide_small.1 wide_small.2 wide_ok ones wide_ws wide_w 3 (by decide))
  clear hC hb2 WD
  go_wp2_with fail
  refine NW.out.mono ?_
  rintro e w3 ⟨sb, rfl, hn3⟩
  have A3 := hid (aw_new hn3)
  have PC := hid (parts_any w3 ma 50)
  clear hn3 NW
  go_wp2_with fail
  refine PC.out.mono ?_
  rintro e w4 ⟨u4, rfl, hu4, hb4⟩
  obtain ⟨ua, uc, rfl⟩ := hu4.slice
  obtain ⟨fr0, hA4, hin, hcl⟩ := A3.out.beside hu4 hb4
  simp only [List.append_nil] at hA4
  have CL := hid hcl
  have SP := hid (aw_next2 (n := 3) (i := 0) (L := fun _ => lawL ma 50 8) hA4 E2.out (by omega) (run_new _ (by decide)) (by decide) rfl hu4 hin)
  clear hcl hin hA4 hu4 hb4 PC A3 hu hr
  go_wp2_with fail
  refine SP.out.mono ?_
  rintro e w5 ⟨rfl, s1, hR1, hA5⟩
  obtain ⟨w7, hw7⟩ : ∃ w7, w7 = (w5.alloc (.cells #[.int .i64 0, .int .i64 1] 43)).alloc (.cells #[.int .i64 (c : Int), .int .i64 value, .int .i64 0, .int .i64 0, .int .i64 0, .int .i64 7] 47) := ⟨_, rfl⟩
  have hA7 := (hA5.alloc #[.int .i64 0, .int .i64 1] 43).alloc #[.int .i64 (c : Int), .int .i64 value, .int .i64 0, .int .i64 0, .int .i64 0, .int .i64 7] 47
  rw [← hw7, show (w5.alloc (.cells #[.int .i64 0, .int .i64 1] 43)).heap.size = w5.heap.size + 1 by simp] at hA7
  have A7 := hid hA7
  have HW7 := hid hw7
  obtain ⟨fr, hfr⟩ : ∃ fr : List (Nat × Obj), fr = (w5.heap.size + 1, .cells #[.int .i64 (c : Int), .int .i64 value, .int .i64 0, .int .i64 0, .int .i64 0, .int .i64 7] 47 (0, 0)) :: (w5.heap.size, .cells #[.int .i64 0, .int .i64 1] 43 (0, 0)) :: fr0 := ⟨_, rfl⟩
  rw [← hfr] at A7
  have hs0 : Hid (∀ x ∈ fr0, x ∈ fr) := fun x hx => by rw [hfr]; exact List.mem_cons_of_mem _ (List.mem_cons_of_mem _ hx)
  have XX : Hid (∀ s t w, Aw w2 sb s t fr w → w.cell? ⟨w5.heap.size, 0, none⟩ = some (.int .i64 0) ∧ w.cell? ⟨w5.heap.size, 1, none⟩ = some (.int .i64 1)) := fun s t w h => by
    have e : w.heap[w5.heap.size]? = some (.cells #[.int .i64 0, .int .i64 1] 43 (0, 0)) := h.at (by rw [hfr]; exact List.mem_cons_of_mem _ (List.mem_cons_self ..))
    exact ⟨cell_blk e rfl, cell_blk e rfl⟩
  have PP : Hid (∀ s t w, Aw w2 sb s t fr w → w.cell? ⟨w5.heap.size + 1, 0, none⟩ = some (.int .i64 (c : Int)) ∧ w.cell? ⟨w5.heap.size + 1, 1, none⟩ = some (.int .i64 value) ∧ w.cell? ⟨w5.heap.size + 1, 2, none⟩ = some (.int .i64 0) ∧ w.cell? ⟨w5.heap.size + 1, 3, none⟩ = some (.int .i64 0) ∧ w.cell? ⟨w5.heap.size + 1, 4, none⟩ = some (.int .i64 0) ∧ w.cell? ⟨w5.heap.size + 1, 5, none⟩ = some (.int .i64 7)) := fun s t w h => by
    have e : w.heap[w5.heap.size + 1]? = some (.cells #[.int .i64 (c : Int), .int .i64 value, .int .i64 0, .int .i64 0, .int .i64 0, .int .i64 7] 47 (0, 0)) := h.at (by rw [hfr]; exact List.mem_cons_self ..)
    exact ⟨cell_blk e rfl, cell_blk e rfl, cell_blk e rfl, cell_blk e rfl, cell_blk e rfl, cell_blk e rfl⟩
  have R1 := hid hR1
  have HOK := hid (law_ok ma 50)
  have SA : Hid (∀ W' u, PRow W' u (lawL ma 50 8) → ∀ s t, Aw w2 sb s t fr W' → Calls Tryz.prog 20 #[u, .slice ua (lawL ma 50 8).length uc] W' fun e w' => e = .returned (.bool true) ∧ Below W'.heap.size W' w') := fun W' u hu s t hA => by
    have hl := lawL_len ma 50 8
    exact Rs.same_any W' u _ _ hu (CL.out s t fr W' hs0.out hA).row (by omega)
  have HLEN := hid (law_len ma 50 8)
  have hl8 := lawL_len ma 50 8
  have HCNT := hid (moves_cnt hma8 hc)
  have HW := hid (fun W' => At.with_in ma c (by omega) (by omega) W')
  have HC := hid (fun W' => Sc.count_any (wi ma c) (Nat.lt_trans (At.wi_lt (n := 8) hma8 hc) (by decide)) W')
  have HH := hid (fun W' => At.sethas_in ma c (by omega) (by omega) W')
  clear hA5 hA7 hR1 hw7 hfr SP CL
  go_upto_region 11 with fail
  rw [← HW7.out]
  obtain ⟨x0, x1⟩ := XX.out _ _ _ A7.out
  obtain ⟨p0, p1, p2, p3, p4, p5⟩ := PP.out _ _ _ A7.out
  have hal := R1.out.al (k := 0) (by decide)
  have hat : s1.at 0 = lawL ma 50 8 := R1.out.row 0 (by decide)
  have hws : s1.ws = ones := R1.out.ws
  have c99 : ∀ p ∈ lawL ma 50 8, p.c ≠ (99 : Int) := fun p hp => by have := (HOK.out.2 p hp).2; have e : ones.length = 8 := rfl; omega
  have N99 := hid c99
  clear c99 HW7
  cases hbit : ma.testBit c
  · rw [hbit] at HH HCNT
    have hno := law_no (v := 50) hbit
    have INS : Hid (Calls Tryz.prog 21 #[.pointer (some ⟨sb, 0, none⟩), .agg #[.int .i64 0, .int .i64 1], .agg #[.int .i64 (c : Int), .int .i64 value, .int .i64 0, .int .i64 0, .int .i64 0, .int .i64 7]] w7 fun e w' => e = .returned .nilIface ∧ Aw w2 sb (entered s1 0 (insP (lawL ma 50 8) ⟨(c : Int), value, 0, 0, 0, 7⟩)) 1 fr w') := by
      have := aw_insert A7.out E2.out hal ⟨(c : Int), value, 0, 0, 0, 7⟩ (by rw [hws]; exact fit_one hc value 7) (show I64 7 from I64_mid (by decide) (by decide)) (by rw [hat]; exact hno)
      rw [hat] at this
      exact this
    have hp64 : 0 < s1.p.length := by rw [R1.out.n2]; decide
    obtain ⟨s2, hs2⟩ : ∃ s2, s2 = entered s1 0 (insP (lawL ma 50 8) ⟨(c : Int), value, 0, 0, 0, 7⟩) := ⟨_, rfl⟩
    rw [← hs2] at INS
    have hal2 : al s2 0 1 := by rw [hs2]; exact hal
    have hat2 : s2.at 0 = insP (lawL ma 50 8) ⟨(c : Int), value, 0, 0, 0, 7⟩ := by rw [hs2]; exact at_entered _ hp64
    have hpl2 : 0 < s2.p.length := by rw [hs2]; simpa [entered] using hp64
    have hl2 : (s2.at 0).length = Sc.ones 32 (wi ma c) := by rw [hat2, Rs.insP_len, HLEN.out, HCNT.out]; rfl
    have hli : ((s2.at 0).length : Int) ≤ 9 := by rw [hat2, Rs.insP_len]; omega
    have hmem : (⟨(c : Int), value, 0, 0, 0, 7⟩ : Prt) ∈ s2.at 0 := by rw [hat2, Rs.insP_rec]; exact Rs.mem_insr.2 (.inl rfl)
    have hback : remP (s2.at 0) (c : Int) = lawL ma 50 8 := by rw [hat2]; exact rem_ins hno
    clear hs2 hat2 hal hat hws hp64 hno HCNT HLEN R1
    go_wp2_with fail
    refine INS.out.mono ?_
    rintro e w8 ⟨rfl, hA8⟩
    have A8 := hid hA8
    have KK : Hid (∀ W', Below w8.heap.size w8 W' → W'.cell? ⟨1, 0, none⟩ = some (.iface 278 (.pointer (some (Ad 9))))) := fun W' hb => e9 ((A8.out.later hb).env E2.out)
    have C47 : Hid (∀ W', Below w8.heap.size w8 W' → Calls Tryz.prog 47 #[.int .u32 (ma : Int), .int .i64 (c : Int)] W' fun e w' => e = .returned (.bool false) ∧ Below w8.heap.size w8 w') := fun W' hb => (HH.out W').mono fun e w' ⟨q1, q2⟩ => ⟨q1, by rw [q2]; exact hb⟩
    have C13 : Hid (∀ W', Below w8.heap.size w8 W' → Calls Tryz.prog 13 #[.nilIface, .iface 278 (.pointer (some (Ad 9)))] W' fun e w' => e = .returned (.bool false) ∧ Below w8.heap.size w8 w') := fun W' hb => (is_none W' (Ad 9)).mono fun e w' ⟨q1, q2⟩ => ⟨q1, by rw [q2]; exact hb⟩
    clear INS hA8 A7 x0 x1 p0 p1 p2 p3 p4 p5
    go_upto_region 12 with fail
    go_region_held3 (fun W' => W'.cell? ⟨1, 0, none⟩ = some (.iface 278 (.pointer (some (Ad 9)))))
      (first | exact KK.out _ (by assumption) | exact KK.out _ (Below.refl _ _).drew | exact KK.out _ (Below.refl _ _))
      (first
        | (go_at_call 47; refine (C47.out _ (by first | assumption | exact (Below.refl _ _).drew | exact Below.refl _ _)).mono ?_; rintro e w9 ⟨rfl, hb9⟩)
        | (go_at_call 13; refine (C13.out _ (by first | assumption | exact (Below.refl _ _).drew | exact Below.refl _ _)).mono ?_; rintro e w9 ⟨rfl, hb9⟩))
    have A9 := hid (A8.out.later hb9)
    obtain ⟨x0, x1⟩ := XX.out _ _ _ A9.out
    have PT := hid (aw_parts2 A9.out hal2)
    rw [hl2] at PT
    clear KK C47 C13 A8 hb9
    go_wp2_with fail
    refine PT.out.mono ?_
    rintro e w10 ⟨va1, vc1, rfl, -, hA10⟩
    have A10 := hid hA10
    clear PT hA10 A9 x0 x1
    go_wp2_with fail
    refine (HW.out _).mono ?_
    rintro e w' ⟨rfl, hw'⟩
    obtain rfl := hw'.symm
    clear hw'
    go_wp2_with fail
    refine (HC.out _).mono ?_
    rintro e w11 ⟨rfl, hb11⟩
    have A11 := hid (A10.out.later hb11)
    obtain ⟨x0, x1⟩ := XX.out _ _ _ A11.out
    have RE : Hid (Calls Tryz.prog 23 #[.pointer (some ⟨sb, 0, none⟩), .agg #[.int .i64 0, .int .i64 1], .int .i64 (c : Int)] w11 fun e w' => e = .returned (.tuple #[.agg #[.int .i64 (c : Int), .int .i64 value, .int .i64 0, .int .i64 0, .int .i64 0, .int .i64 7], .nilIface]) ∧ Aw w2 sb (entered s2 0 (lawL ma 50 8)) 1 fr w') := by
      have := aw_remove A11.out hal2 ⟨(c : Int), value, 0, 0, 0, 7⟩ hmem
      rw [show remP (s2.at 0) (⟨(c : Int), value, 0, 0, 0, 7⟩ : Prt).c = lawL ma 50 8 from hback] at this
      exact this
    obtain ⟨s3, hs3⟩ : ∃ s3, s3 = entered s2 0 (lawL ma 50 8) := ⟨_, rfl⟩
    rw [← hs3] at RE
    have hal3 : al s3 0 1 := by rw [hs3]; exact hal2
    have hat3 : s3.at 0 = lawL ma 50 8 := by rw [hs3]; exact at_entered _ hpl2
    clear hb11 hs3 hal2 hmem hback hl2 hli hpl2 A10
    go_wp2_with fail
    refine RE.out.mono ?_
    rintro e w12 ⟨rfl, hA12⟩
    obtain ⟨w13, hw13⟩ : ∃ w13, w13 = w12.alloc (.cells #[.int .i64 (c : Int), .int .i64 value, .int .i64 0, .int .i64 0, .int .i64 0, .int .i64 7] 47) := ⟨_, rfl⟩
    have hA13 := hA12.alloc #[.int .i64 (c : Int), .int .i64 value, .int .i64 0, .int .i64 0, .int .i64 0, .int .i64 7] 47
    rw [← hw13] at hA13
    have HW13 := hid hw13
    have hbq : w13.heap[w12.heap.size]? = some (.cells #[.int .i64 (c : Int), .int .i64 value, .int .i64 0, .int .i64 0, .int .i64 0, .int .i64 7] 47 (0, 0)) := hA13.at (List.mem_cons_self ..)
    have A13 := hid (hA13.few (fr' := fr) fun x hx => List.mem_cons_of_mem _ hx)
    have r0 : w13.cell? ⟨w12.heap.size, 0, none⟩ = some (.int .i64 (c : Int)) := cell_blk hbq rfl
    have r1 : w13.cell? ⟨w12.heap.size, 1, none⟩ = some (.int .i64 value) := cell_blk hbq rfl
    have r2 : w13.cell? ⟨w12.heap.size, 2, none⟩ = some (.int .i64 0) := cell_blk hbq rfl
    have r3 : w13.cell? ⟨w12.heap.size, 3, none⟩ = some (.int .i64 0) := cell_blk hbq rfl
    have r4 : w13.cell? ⟨w12.heap.size, 4, none⟩ = some (.int .i64 0) := cell_blk hbq rfl
    have r5 : w13.cell? ⟨w12.heap.size, 5, none⟩ = some (.int .i64 7) := cell_blk hbq rfl
    obtain ⟨p0, p1, p2, p3, p4, p5⟩ := PP.out _ _ _ A13.out
    obtain ⟨y0, y1⟩ := XX.out _ _ _ A13.out
    have NP := Co.neqP (c : Int) value 0 0 0 7
    have PT : Hid (Calls Tryz.prog 42 #[.pointer (some ⟨sb, 0, none⟩), .agg #[.int .i64 0, .int .i64 1]] w13 fun e w' => ∃ va vc, e = .returned (.tuple #[.slice va (lawL ma 50 8).length vc, .nilIface]) ∧ PRow w' (.slice va (lawL ma 50 8).length vc) (lawL ma 50 8) ∧ Aw w2 sb s3 1 fr w') := by
      have := aw_parts2 A13.out hal3
      rw [hat3] at this
      exact this
    clear RE hA12 hA13 hw13 hbq x0 x1 A11
    go_upto_region 18 with fail
    rw [← HW13.out]
    go_wp2_with fail
    refine (HH.out _).mono ?_
    rintro e w' ⟨rfl, hw'⟩
    obtain rfl := hw'.symm
    clear hw'
    go_wp2_with fail
    refine PT.out.mono ?_
    rintro e w14 ⟨va2, vc2, rfl, hP14, hA14⟩
    have PB := hid hP14
    have AL := hid hA14
    obtain ⟨y0, y1⟩ := XX.out _ _ _ AL.out
    clear PT hP14 hA14 A13 r0 r1 r2 r3 r4 r5 p0 p1 p2 p3 p4 p5 HW13 NP
    go_wp2_with fail
    refine (HH.out _).mono ?_
    rintro e w' ⟨rfl, hw'⟩
    obtain rfl := hw'.symm
    clear hw'
    have RM : Hid (Calls Tryz.prog 23 #[.pointer (some ⟨sb, 0, none⟩), .agg #[.int .i64 0, .int .i64 1], .int .i64 99] w14 fun e w2 => ∃ tt qq, e = .returned (.tuple #[.agg #[.int .i64 0, .int .i64 0, .int .i64 0, .int .i64 0, .int .i64 0, .int .i64 0], .iface tt qq]) ∧ Er Ad w2 (.iface tt qq) 7 ∧ Below w14.heap.size w14 w2) := aw_remno AL.out E2.out hal3 99 (I64_mid (by decide) (by decide)) (by rw [hat3]; exact N99.out)
    clear hal3 hat3
    go_wp2_with fail
    refine RM.out.mono ?_
    rintro e w30 ⟨t30, q30, rfl, hr30, hb30⟩
    obtain ⟨w31, hw31⟩ : ∃ w31, w31 = w30.alloc (.cells #[.int .i64 0, .int .i64 0, .int .i64 0, .int .i64 0, .int .i64 0, .int .i64 0] 47) := ⟨_, rfl⟩
    have b31 : Below w30.heap.size w30 w31 := by rw [hw31]; exact bAl _ _
    have B31 := hid (hb30.trans (b31.mono hb30.size))
    have HW31 := hid hw31
    have A31 := hid (AL.out.later B31.out)
    have R31 := hid (hr30.later b31)
    have SM := hid (SA.out w31 _ (PB.out.later B31.out) _ _ A31.out)
    clear RM hr30 hb30 hw31 b31 y0 y1
    go_upto_region 26 with fail
    rw [← HW31.out]
    go_wp2_with fail
    refine SM.out.mono ?_
    rintro e w32 ⟨rfl, hb32⟩
    have A32 := hid (A31.out.later hb32)
    have c7 := e7 (A32.out.env E2.out)
    have I7 := hid (is_er2 (A32.out.env E2.out) (R31.out.later hb32) (by omega) (k := 7) (by decide))
    clear SM hb32 HW31
    go_wp2_with fail
    refine I7.out.mono ?_
    rintro e w33 ⟨rfl, hb33⟩
    have BF := hid (B2.out.trans ((A32.out.later hb33).bel.mono B2.out.size))
    clear I7 hb33
    go_wp2_with fail
    go_ret
    exact ⟨rfl, BF.out⟩
  · rw [hbit] at HH HCNT
    obtain ⟨wv, hwv⟩ : ∃ wv, wv = wrap64 (50 + (c : Int)) := ⟨_, rfl⟩
    have hqm : (⟨(c : Int), wv, 0, 0, 0, (c : Int)⟩ : Prt) ∈ lawL ma 50 8 := (lawL_mem ma 50 8 _).2 ⟨c, hc, hbit, by rw [hwv]; rfl⟩
    have INS : Hid (Calls Tryz.prog 21 #[.pointer (some ⟨sb, 0, none⟩), .agg #[.int .i64 0, .int .i64 1], .agg #[.int .i64 (c : Int), .int .i64 value, .int .i64 0, .int .i64 0, .int .i64 0, .int .i64 7]] w7 fun e w' => ∃ tt qq, e = .returned (.iface tt qq) ∧ Er Ad w' (.iface tt qq) 9 ∧ Aw w2 sb s1 1 fr w') := by
      have := aw_twice A7.out E2.out hal ⟨(c : Int), value, 0, 0, 0, 7⟩ ⟨(c : Int), wv, 0, 0, 0, (c : Int)⟩ (by rw [hws]; exact fit_one hc value 7) (by rw [hat]; exact hqm) rfl
      refine this.mono ?_
      rintro e w' ⟨r, rfl, q1, q2⟩
      rcases q1 with ⟨e, -⟩ | ⟨h9, tt, qq, rfl, q1⟩
      · omega
      · exact ⟨tt, qq, rfl, .inr ⟨h9, tt, qq, rfl, q1⟩, q2⟩
    have hp64 : 0 < s1.p.length := by rw [R1.out.n2]; decide
    have hl2 : (s1.at 0).length = Sc.ones 32 (wi ma c) := by rw [hat, HLEN.out, HCNT.out]; rfl
    have hli : ((s1.at 0).length : Int) ≤ 9 := by rw [hat]; omega
    have hal2 := hal
    clear hwv HCNT HLEN R1 hal
    go_wp2_with fail
    refine INS.out.mono ?_
    rintro e w8 ⟨t8, q8, rfl, hr8, hA8⟩
    have A8 := hid hA8
    have R8 := hid hr8
    have KK : Hid (∀ W', Below w8.heap.size w8 W' → W'.cell? ⟨1, 0, none⟩ = some (.iface 278 (.pointer (some (Ad 9))))) := fun W' hb => e9 ((A8.out.later hb).env E2.out)
    have C47 : Hid (∀ W', Below w8.heap.size w8 W' → Calls Tryz.prog 47 #[.int .u32 (ma : Int), .int .i64 (c : Int)] W' fun e w' => e = .returned (.bool true) ∧ Below w8.heap.size w8 w') := fun W' hb => (HH.out W').mono fun e w' ⟨q1, q2⟩ => ⟨q1, by rw [q2]; exact hb⟩
    have C13 : Hid (∀ W', Below w8.heap.size w8 W' → Calls Tryz.prog 13 #[.iface t8 q8, .iface 278 (.pointer (some (Ad 9)))] W' fun e w' => e = .returned (.bool true) ∧ Below w8.heap.size w8 w') := fun W' hb => (is_er2 ((A8.out.later hb).env E2.out) (R8.out.later hb) (by omega) (k := 9) (by decide)).mono fun e w' ⟨q1, q2⟩ => ⟨by rw [q1]; rfl, hb.trans (q2.mono hb.size)⟩
    clear hr8
    clear INS hA8 A7 x0 x1 p0 p1 p2 p3 p4 p5
    go_upto_region 12 with fail
    have c9 := KK.out _ (Below.refl _ _)
    first
    | (go_region_with (first
        | (go_at_call 47; refine (C47.out _ (by first | assumption | exact (Below.refl _ _).drew | exact Below.refl _ _)).mono ?_; rintro e w9 ⟨rfl, hb9⟩; have c9 := KK.out _ hb9)
        | (go_at_call 13; refine (C13.out _ (by first | assumption | exact (Below.refl _ _).drew | exact Below.refl _ _)).mono ?_; rintro e w9 ⟨rfl, hb9⟩; have c9 := KK.out _ hb9)))
    | fail
    all_goals
      clear c9
      have A9 := hid (A8.out.later hb9)
      obtain ⟨x0, x1⟩ := XX.out _ _ _ A9.out
      have PT := hid (aw_parts2 A9.out hal2)
      rw [hl2] at PT
      clear KK C47 C13 A8 hb9
      go_wp2_with fail
      refine PT.out.mono ?_
      rintro e w10 ⟨va1, vc1, rfl, -, hA10⟩
      have A10 := hid hA10
      clear PT hA10 A9 x0 x1
      go_wp2_with fail
      refine (HW.out _).mono ?_
      rintro e w' ⟨rfl, hw'⟩
      obtain rfl := hw'.symm
      clear hw'
      go_wp2_with fail
      refine (HC.out _).mono ?_
      rintro e w11 ⟨rfl, hb11⟩
      have A11 := hid (A10.out.later hb11)
      obtain ⟨x0, x1⟩ := XX.out _ _ _ A11.out
      have RE : Hid (Calls Tryz.prog 23 #[.pointer (some ⟨sb, 0, none⟩), .agg #[.int .i64 0, .int .i64 1], .int .i64 (c : Int)] w11 fun e w' => e = .returned (.tuple #[.agg #[.int .i64 (c : Int), .int .i64 wv, .int .i64 0, .int .i64 0, .int .i64 0, .int .i64 (c : Int)], .nilIface]) ∧ Aw w2 sb (entered s1 0 (remP (lawL ma 50 8) (c : Int))) 1 fr w') := by
        have := aw_remove A11.out hal2 ⟨(c : Int), wv, 0, 0, 0, (c : Int)⟩ (by rw [hat]; exact hqm)
        rw [hat] at this
        exact this
      obtain ⟨s2, hs2⟩ : ∃ s2, s2 = entered s1 0 (remP (lawL ma 50 8) (c : Int)) := ⟨_, rfl⟩
      rw [← hs2] at RE
      have hal3 : al s2 0 1 := by rw [hs2]; exact hal2
      have hat3 : s2.at 0 = remP (lawL ma 50 8) (c : Int) := by rw [hs2]; exact at_entered _ hp64
      have hws3 : s2.ws = ones := by rw [hs2]; exact hws
      have hp3 : 0 < s2.p.length := by rw [hs2]; simpa [entered] using hp64
      clear hb11 hs2 hal2 hl2 hli hp64 hws hat A10
      go_wp2_with fail
      refine RE.out.mono ?_
      rintro e w12 ⟨rfl, hA12⟩
      obtain ⟨w13, hw13⟩ : ∃ w13, w13 = w12.alloc (.cells #[.int .i64 (c : Int), .int .i64 wv, .int .i64 0, .int .i64 0, .int .i64 0, .int .i64 (c : Int)] 47) := ⟨_, rfl⟩
      have hA13 := hA12.alloc #[.int .i64 (c : Int), .int .i64 wv, .int .i64 0, .int .i64 0, .int .i64 0, .int .i64 (c : Int)] 47
      rw [← hw13] at hA13
      have HW13 := hid hw13
      have A13 := hid hA13
      obtain ⟨y0, y1⟩ := XX.out _ _ _ (A13.out.few (fr' := fr) fun x hx => List.mem_cons_of_mem _ hx)
      have PT := hid (aw_parts2 A13.out hal3)
      clear RE hA12 hA13 hw13 x0 x1 A11
      go_upto_region 18 with fail
      rw [← HW13.out]
      go_wp2_with fail
      refine (HH.out _).mono ?_
      rintro e w' ⟨rfl, hw'⟩
      obtain rfl := hw'.symm
      clear hw'
      go_wp2_with fail
      refine PT.out.mono ?_
      rintro e w14 ⟨va2, vc2, rfl, -, hA14⟩
      have A14 := hid hA14
      obtain ⟨y0, y1⟩ := XX.out _ _ _ (A14.out.few (fr' := fr) fun x hx => List.mem_cons_of_mem _ hx)
      have hbq : w14.heap[w12.heap.size]? = some (.cells #[.int .i64 (c : Int), .int .i64 wv, .int .i64 0, .int .i64 0, .int .i64 0, .int .i64 (c : Int)] 47 (0, 0)) := A14.out.at (List.mem_cons_self ..)
      have r0 : w14.cell? ⟨w12.heap.size, 0, none⟩ = some (.int .i64 (c : Int)) := cell_blk hbq rfl
      have r1 : w14.cell? ⟨w12.heap.size, 1, none⟩ = some (.int .i64 wv) := cell_blk hbq rfl
      have r2 : w14.cell? ⟨w12.heap.size, 2, none⟩ = some (.int .i64 0) := cell_blk hbq rfl
      have r3 : w14.cell? ⟨w12.heap.size, 3, none⟩ = some (.int .i64 0) := cell_blk hbq rfl
      have r4 : w14.cell? ⟨w12.heap.size, 4, none⟩ = some (.int .i64 0) := cell_blk hbq rfl
      have r5 : w14.cell? ⟨w12.heap.size, 5, none⟩ = some (.int .i64 (c : Int)) := cell_blk hbq rfl
      have IN2 : Hid (Calls Tryz.prog 21 #[.pointer (some ⟨sb, 0, none⟩), .agg #[.int .i64 0, .int .i64 1], .agg #[.int .i64 (c : Int), .int .i64 wv, .int .i64 0, .int .i64 0, .int .i64 0, .int .i64 (c : Int)]] w14 fun e w' => e = .returned .nilIface ∧ Aw w2 sb (entered s2 0 (lawL ma 50 8)) 1 fr w') := by
        have := aw_insert A14.out E2.out hal3 ⟨(c : Int), wv, 0, 0, 0, (c : Int)⟩ (by rw [hws3]; exact fit_one hc wv (c : Int)) (show I64 (c : Int) from I64_mid (by omega) (by omega)) (by rw [hat3]; exact Rs.remP_no _ _)
        rw [hat3, show insP (remP (lawL ma 50 8) (c : Int)) ⟨(c : Int), wv, 0, 0, 0, (c : Int)⟩ = lawL ma 50 8 from ins_rem HOK.out hqm] at this
        exact this.mono fun e w' ⟨q1, q2⟩ => ⟨q1, q2.few fun x hx => List.mem_cons_of_mem _ hx⟩
      obtain ⟨s3, hs3⟩ : ∃ s3, s3 = entered s2 0 (lawL ma 50 8) := ⟨_, rfl⟩
      rw [← hs3] at IN2
      have hal4 : al s3 0 1 := by rw [hs3]; exact hal3
      have hat4 : s3.at 0 = lawL ma 50 8 := by rw [hs3]; exact at_entered _ hp3
      clear PT hA14 A13 HW13 hbq hs3 hal3 hat3 hws3 hp3 hqm
      go_wp2_with fail
      refine (HH.out _).mono ?_
      rintro e w' ⟨rfl, hw'⟩
      obtain rfl := hw'.symm
      clear hw'
      go_wp2_with fail
      refine IN2.out.mono ?_
      rintro e w15 ⟨rfl, hA15⟩
      have A15 := hid hA15
      obtain ⟨y0, y1⟩ := XX.out _ _ _ A15.out
      have PT : Hid (Calls Tryz.prog 42 #[.pointer (some ⟨sb, 0, none⟩), .agg #[.int .i64 0, .int .i64 1]] w15 fun e w' => ∃ va vc, e = .returned (.tuple #[.slice va (lawL ma 50 8).length vc, .nilIface]) ∧ PRow w' (.slice va (lawL ma 50 8).length vc) (lawL ma 50 8) ∧ Aw w2 sb s3 1 fr w') := by
        have := aw_parts2 A15.out hal4
        rw [hat4] at this
        exact this
      clear IN2 hA15 A14 r0 r1 r2 r3 r4 r5
      go_wp2_with fail
      refine PT.out.mono ?_
      rintro e w16 ⟨va3, vc3, rfl, hP16, hA16⟩
      have PB := hid hP16
      have AL := hid hA16
      obtain ⟨y0, y1⟩ := XX.out _ _ _ AL.out
      clear PT hP16 hA16 A15
      have RM : Hid (Calls Tryz.prog 23 #[.pointer (some ⟨sb, 0, none⟩), .agg #[.int .i64 0, .int .i64 1], .int .i64 99] w16 fun e w2 => ∃ tt qq, e = .returned (.tuple #[.agg #[.int .i64 0, .int .i64 0, .int .i64 0, .int .i64 0, .int .i64 0, .int .i64 0], .iface tt qq]) ∧ Er Ad w2 (.iface tt qq) 7 ∧ Below w16.heap.size w16 w2) := aw_remno AL.out E2.out hal4 99 (I64_mid (by decide) (by decide)) (by rw [hat4]; exact N99.out)
      clear hal4 hat4
      go_wp2_with fail
      refine RM.out.mono ?_
      rintro e w30 ⟨t30, q30, rfl, hr30, hb30⟩
      obtain ⟨w31, hw31⟩ : ∃ w31, w31 = w30.alloc (.cells #[.int .i64 0, .int .i64 0, .int .i64 0, .int .i64 0, .int .i64 0, .int .i64 0] 47) := ⟨_, rfl⟩
      have b31 : Below w30.heap.size w30 w31 := by rw [hw31]; exact bAl _ _
      have B31 := hid (hb30.trans (b31.mono hb30.size))
      have HW31 := hid hw31
      have A31 := hid (AL.out.later B31.out)
      have R31 := hid (hr30.later b31)
      have SM := hid (SA.out w31 _ (PB.out.later B31.out) _ _ A31.out)
      clear RM hr30 hb30 hw31 b31 y0 y1
      go_upto_region 26 with fail
      rw [← HW31.out]
      go_wp2_with fail
      refine SM.out.mono ?_
      rintro e w32 ⟨rfl, hb32⟩
      have A32 := hid (A31.out.later hb32)
      have c7 := e7 (A32.out.env E2.out)
      have I7 := hid (is_er2 (A32.out.env E2.out) (R31.out.later hb32) (by omega) (k := 7) (by decide))
      clear SM hb32 HW31
      go_wp2_with fail
      refine I7.out.mono ?_
      rintro e w33 ⟨rfl, hb33⟩
      have BF := hid (B2.out.trans ((A32.out.later hb33).bel.mono B2.out.size))
      clear I7 hb33
      go_wp2_with fail
      go_ret
      exact ⟨rfl, BF.out⟩
end Go.Proofs.YtagjmggiaffihaaGreatDoor.So
namespace Go.Proofs.YtagjmggiaffihaaGreatDoor.So
open Go.RowKit Go.Shelf Go.Maps
open Go.Proofs.YtagjmggiaffihaaGreatDoor.Co (I64 I64_mid Pt)
open Go.Proofs.YtagjmggiaffihaaGreatDoor.At (St bAl cell_blk blk_seen blk_free Err an wi mtB bits_and32 bits_an32)
open Go.Proofs.YtagjmggiaffihaaGreatDoor.Ro (RS Ents)
open Go.Proofs.YtagjmggiaffihaaGreatDoor.Rs (SD mskP Prt Prts PRow okL fitP remP insP)
/-- What the one whom nobody means has. -/
structure Own (k : Nat) (l : List Prt) (s : SD) : Prop where
  ws : s.ws = ones
  al : al s k 1
  at' : s.at k = l
theorem Own.but {k n : Nat} {l : List Prt} {s s' : SD} (h : Own k l s) (hb : But n s s') (hn : k ≠ n) : Own k l s' := ⟨hb.ws.trans h.ws, hb.al k 1 hn h.al, (hb.at' k hn).trans h.at'⟩
set_option maxHeartbeats 25600000 in
set_option maxRecDepth 100000 in
theorem apart_law (w : World) (Ad : Nat → Addr) (hE : Env8 w Ad) (v : Value) (ts : List Nat) (hT : MRow w v ts) (whom : Int) (av : Value) (cl : List ActI) (hC : ActRow w av cl) :
    Calls Tryz.prog 4 #[v, .int .i64 whom, av] w fun e w' => e = .returned (.bool true) ∧ Below w.heap.size w w' := by
  have HT := hid hT
  have HC := hid hC
  have HE := hid hE
  obtain ⟨-, a, c, rfl, -⟩ := hT
  obtain ⟨ca, cc0, rfl, -⟩ := hC
  have AW := hid (awake_any Ad w hE)
  clear hE
  by_cases hz : ts.length = 0
  · have hzi : (ts.length : Int) = 0 := by omega
    go_enter Tryz.func4, Tryz.ntmps4
    go_wp2_with fail
    refine AW.out.mono ?_
    rintro e w1 ⟨rfl, b1⟩
    have B1 := hid b1
    have WD := hid (wide_any w1)
    clear AW b1
    go_wp2_with fail
    refine WD.out.mono ?_
    rintro e w2 ⟨va, rfl, hC, hb2⟩
    have B2 := hid (B1.out.trans (hb2.mono B1.out.size))
    have E2 := hid (HE.out.later B2.out)
    have NW := hid (new_ok Ad w2 va (.slice none 0 0) (wideL 8) [] E2.out hC ⟨none, 0, rfl, Nat.le_refl _, .inl rfl⟩ wide_small.1 wide_small.2 wide_ok ones wide_ws wide_w 64 (by decide))
    clear hC hb2 WD
    go_wp2_with fail
    refine NW.out.mono ?_
    rintro e w3 ⟨sb, rfl, hn3⟩
    have A3 := hid (aw_new hn3)
    have BF := hid (B2.out.trans (A3.out.bel.mono B2.out.size))
    clear hn3 NW A3
    go_wp2_with fail
    go_ret
    exact ⟨rfl, BF.out⟩
  by_cases hbig : 60 < ts.length
  · have hzi : ((ts.length : Int) == 0) = false := beq_eq_false_iff_ne.2 (by omega)
    have hbi : (60 : Int) < (ts.length : Int) := by omega
    go_enter Tryz.func4, Tryz.ntmps4
    go_wp2_with fail
    refine AW.out.mono ?_
    rintro e w1 ⟨rfl, b1⟩
    have B1 := hid b1
    have WD := hid (wide_any w1)
    clear AW b1
    go_wp2_with fail
    refine WD.out.mono ?_
    rintro e w2 ⟨va, rfl, hC, hb2⟩
    have B2 := hid (B1.out.trans (hb2.mono B1.out.size))
    have E2 := hid (HE.out.later B2.out)
    have NW := hid (new_ok Ad w2 va (.slice none 0 0) (wideL 8) [] E2.out hC ⟨none, 0, rfl, Nat.le_refl _, .inl rfl⟩ wide_small.1 wide_small.2 wide_ok ones wide_ws wide_w 64 (by decide))
    clear hC hb2 WD
    go_wp2_with fail
    refine NW.out.mono ?_
    rintro e w3 ⟨sb, rfl, hn3⟩
    have A3 := hid (aw_new hn3)
    have BF := hid (B2.out.trans (A3.out.bel.mono B2.out.size))
    clear hn3 NW A3
    go_wp2_with fail
    go_ret
    exact ⟨rfl, BF.out⟩
  have hzi : ((ts.length : Int) == 0) = false := beq_eq_false_iff_ne.2 (by omega)
  have hbi : ¬ (60 : Int) < (ts.length : Int) := by omega
  have hsi : (ts.length : Int) ≤ 60 := by omega
  have hs60 : ts.length ≤ 60 := by omega
  have hpos : 0 < ts.length := by omega
  have hposi : (0 : Int) < (ts.length : Int) := by omega
  obtain ⟨L, hLd⟩ : ∃ L : Nat → List Prt, L = fun j => lawL (ts.getD j 0 % 256) (100 * (j : Int)) 8 := ⟨_, rfl⟩
  have HLD := hid hLd
  obtain ⟨uw, kw, hkw, huw, hrw⟩ := rem_at whom ts.length hpos
  have hkwi : (kw : Int) < (ts.length : Int) := by omega
  clear hz hbig hLd
  go_enter Tryz.func4, Tryz.ntmps4
  go_wp2_with fail
  refine AW.out.mono ?_
  rintro e w1 ⟨rfl, b1⟩
  have B1 := hid b1
  have WD := hid (wide_any w1)
  clear AW b1
  go_wp2_with fail
  refine WD.out.mono ?_
  rintro e w2 ⟨va, rfl, hC, hb2⟩
  have B2 := hid (B1.out.trans (hb2.mono B1.out.size))
  have E2 := hid (HE.out.later B2.out)
  have NW := hid (new_ok Ad w2 va (.slice none 0 0) (wideL 8) [] E2.out hC ⟨none, 0, rfl, Nat.le_refl _, .inl rfl⟩ wide_small.1 wide_small.2 wide_ok ones wide_ws wide_w 64 (by decide))
  clear hC hb2 WD
  go_wp2_with fail
  refine NW.out.mono ?_
  rintro e w3 ⟨sb, rfl, hn3⟩
  have A3 := hid (aw_new hn3)
  have A4 := hid (Ar.new (A3.out.alloc #[] 43) (List.mem_cons_self ..) A3.out.bel.size)
  clear hn3 NW A3
  go_wp2_with fail
  go_loopg [9, 10, 11, 12] ts.length (fun gh l i _ _ wr => ∃ k : Nat, k ≤ ts.length ∧ gh = ts.length - k ∧ i = .int .i64 (k : Int) ∧ ∃ s : SD, Hid (Run 64 k L s) ∧ Hid (Ar w2 sb s k l (ents k) wr))
  case atStart => exact ⟨0, Nat.zero_le _, rfl, rfl, madeS ones 64, run_new _ (by decide), A4.out⟩
  case round =>
    clear A4
    rename World => wr
    obtain ⟨k, hk, rfl, rfl, s, HR, HA⟩ := hrel
    obtain ⟨fr0, hA0, hcl⟩ := HA.out.open
    have A0 := hid hA0
    have CL := hid hcl
    have HL := hid HA.out.1
    have BR := hid (B2.out.trans (hA0.bel.mono B2.out.size))
    clear hA0 hcl
    by_cases hlt : k < ts.length
    · have hki : (k : Int) < (ts.length : Int) := by omega
      obtain ⟨t, ht⟩ := at_lt ts k hlt
      obtain ⟨b, o, rfl, d0⟩ : ∃ b o, a = some ⟨b, o, none⟩ ∧ wr.cell? ⟨b, o + k, none⟩ = some (.int .u32 (t : Int)) := by
        obtain ⟨-, a', c', hv, hl⟩ := HT.out
        obtain ⟨rfl, rfl⟩ : a = a' ∧ c = c' := by simpa using hv
        rcases hl with h | ⟨b, o, h4, h5⟩
        · rw [h] at hlt; simp at hlt
        · exact ⟨b, o, h4, At.seen BR.out (Nat.le_refl _) (h5 k t ht)⟩
      have ha := and8 t (HT.out.1 t (List.mem_of_getElem? ht))
      have hmul : IntKind.i64.wrap (100 * (k : Int)) = 100 * (k : Int) := Co.wrap_mid (by omega) (by omega)
      have hL : L k = lawL (t % 256) (100 * (k : Int)) 8 := by rw [HLD.out]; show lawL (ts.getD k 0 % 256) _ 8 = _; rw [List.getD_eq_getElem?_getD, ht]; rfl
      have PC := hid (parts_any wr (t % 256) (100 * (k : Int)))
      have SP := hid (fun v w' (hv : Prts wr.heap.size w' v (lawL (t % 256) (100 * (k : Int)) 8)) (hb : Below wr.heap.size wr w') => aw_next A0.out E2.out (by omega) HR.out (by omega) hL hv hb)
      generalize t % 256 = t' at *
      clear ht hL HL
      go_wp2_with fail
      refine PC.out.mono ?_
      rintro e w4 ⟨u4, rfl, hu4, hb4⟩
      have SQ := hid (SP.out u4 w4 hu4 hb4)
      clear PC SP hu4 hb4 d0 ha hmul
      go_wp2_with fail
      refine SQ.out.mono ?_
      rintro e w5 ⟨rfl, s', hR5, hA5⟩
      have R5 := hid hR5
      obtain ⟨w6, hw6⟩ : ∃ w6, w6 = w5.alloc (.cells #[.int .i64 (k : Int), .int .i64 1] 43) := ⟨_, rfl⟩
      have A6 := hA5.alloc #[.int .i64 (k : Int), .int .i64 1] 43
      rw [← hw6] at A6
      have HW6 := hid hw6
      have AR := hid (CL.out s' (k + 1) _ _ (fun x hx => List.mem_cons_of_mem _ hx) A6)
      have x0 : w6.cell? ⟨w5.heap.size, 0, none⟩ = some (.int .i64 (k : Int)) := cell_blk (A6.at (List.mem_cons_self ..)) rfl
      have x1 : w6.cell? ⟨w5.heap.size, 1, none⟩ = some (.int .i64 1) := cell_blk (A6.at (List.mem_cons_self ..)) rfl
      have hul : (ents k).length ≤ 1000 := by rw [ents_len]; omega
      have hs6 : w2.heap.size ≤ w6.heap.size := AR.out.2.1.size
      clear SQ hR5 hA5 A6 hw6
      go_upto_region 11 with fail
      rw [← HW6.out]
      go_wp2_with (at_builtin; refine Ro.wpList_ent (g := 1) rfl _ _ rfl AR.out.1 hul hs6 rfl rfl ?_; intro v' w7 ho hst hat)
      go_roundg (ts.length - (k + 1))
      case measure => omega
      case rel => exact ⟨k + 1, by omega, rfl, by go_num, s', R5.out, by rw [ents_succ]; exact AR.out.app ho.out hst.out hat.out⟩
    · have hki : ¬ ((k : Int) < (ts.length : Int)) := by omega
      obtain rfl : k = ts.length := by omega
      obtain ⟨la, lc, rfl⟩ : ∃ la lc, u9 = .slice la (ents ts.length).length lc := Ents.slice HL.out
      obtain ⟨gb, rfl, -, -⟩ := Ents.some HL.out (by rw [ents_len]; exact hpos)
      have hlen : (ents ts.length).length = ts.length := ents_len _
      rw [hlen] at HA ⊢
      have O0 : Hid (Own kw (L kw) s) := ⟨HR.out.ws, HR.out.al hkw, HR.out.row kw hkw⟩
      have EC : Hid (∀ s t w j, j < ts.length → Ar w2 sb s t (.slice (some ⟨gb, 0, none⟩) ts.length lc) (ents ts.length) w → w.cell? ⟨gb, j * 2, none⟩ = some (.int .i64 (j : Int)) ∧ w.cell? ⟨gb, j * 2 + 1, none⟩ = some (.int .i64 1)) := fun s t w j hj h => by
        have h1 := h.1
        rw [← ents_len ts.length] at h1
        have := Ents.cell (l := ents ts.length) (by rw [ents_len] at h1 ⊢; exact h1) (ents_at hj)
        exact this
      clear hk hlt hlen HL A0 CL HR
      go_wp2_with fail
      go_loopg [14, 15, 16, 17] 150 (fun gh i _ _ _ wz => ∃ q : Nat, q ≤ 150 ∧ gh = 150 - q ∧ i = .int .i64 (q : Int) ∧ ∃ s : SD, Hid (Own kw (L kw) s) ∧ Hid (Ar w2 sb s ts.length (.slice (some ⟨gb, 0, none⟩) ts.length lc) (ents ts.length) wz))
      case atStart => exact ⟨0, Nat.zero_le _, rfl, rfl, s, O0.out, HA.out⟩
      case round =>
        clear HA O0 BR
        rename World => wz
        obtain ⟨q, hq, rfl, rfl, s, HO, HA⟩ := hrel
        obtain ⟨fr0, hA0, hcl⟩ := HA.out.open
        have A0 := hid hA0
        have CL := hid hcl
        have BR := hid (B2.out.trans (hA0.bel.mono B2.out.size))
        clear hA0 hcl
        have hqi : (q : Int) ≤ 150 := by omega
        by_cases hc : q < cl.length ∧ q < 150
        · obtain ⟨h1, h2⟩ := hc
          have h1i : (q : Int) < (cl.length : Int) := by omega
          have h2i : (q : Int) < 150 := by omega
          obtain ⟨x, hx⟩ := at_lt cl q h1
          obtain ⟨b, o, rfl, hcl⟩ : ∃ b o, ca = some ⟨b, o, none⟩ ∧ Six16 wz b (o + q * 16) x := by
            obtain ⟨a', c', hv, hl⟩ := HC.out
            obtain ⟨rfl, rfl⟩ : ca = a' ∧ cc0 = c' := by simpa using hv
            rcases hl with h | ⟨b, o, h4, h5⟩
            · rw [h] at h1; simp at h1
            · refine ⟨b, o, h4, fun i hi => ?_⟩
              have := h5 q x hx i hi
              obtain ⟨u, hu⟩ : ∃ u, x.arr[i]? = some u := ⟨x.arr[i]'(by simp [ActI.arr]; omega), Array.getElem?_eq_getElem _⟩
              rw [hu] at this ⊢
              exact At.seen BR.out (Nat.le_refl _) this
          have k0 : wz.cell? ⟨b, o + q * 16, none⟩ = some (.int .i64 x.kind) := hcl 0 (by decide)
          have k1 : wz.cell? ⟨b, o + q * 16 + 1, none⟩ = some (.int .i64 x.n) := hcl 1 (by decide)
          have k2 : wz.cell? ⟨b, o + q * 16 + 2, none⟩ = some (.int .i64 x.ei) := hcl 2 (by decide)
          have k3 : wz.cell? ⟨b, o + q * 16 + 3, none⟩ = some (.int .i64 x.eg) := hcl 3 (by decide)
          have k4 : wz.cell? ⟨b, o + q * 16 + 4, none⟩ = some (.slice x.sa x.sl x.sc) := hcl 4 (by decide)
          have k5 : wz.cell? ⟨b, o + q * 16 + 5, none⟩ = some (.int .i64 x.pc) := hcl 5 (by decide)
          have k6 : wz.cell? ⟨b, o + q * 16 + 6, none⟩ = some (.int .i64 x.p0) := hcl 6 (by decide)
          have k7 : wz.cell? ⟨b, o + q * 16 + 7, none⟩ = some (.int .i64 x.p1) := hcl 7 (by decide)
          have k8 : wz.cell? ⟨b, o + q * 16 + 8, none⟩ = some (.int .i64 x.p2) := hcl 8 (by decide)
          have k9 : wz.cell? ⟨b, o + q * 16 + 9, none⟩ = some (.int .i64 x.p3) := hcl 9 (by decide)
          have k10 : wz.cell? ⟨b, o + q * 16 + 10, none⟩ = some (.int .i64 x.pt) := hcl 10 (by decide)
          have k11 : wz.cell? ⟨b, o + q * 16 + 11, none⟩ = some (.int .i64 x.comp) := hcl 11 (by decide)
          have k12 : wz.cell? ⟨b, o + q * 16 + 12, none⟩ = some (.int .i64 x.cell) := hcl 12 (by decide)
          have k13 : wz.cell? ⟨b, o + q * 16 + 13, none⟩ = some (.int .i64 x.value) := hcl 13 (by decide)
          have k14 : wz.cell? ⟨b, o + q * 16 + 14, none⟩ = some (.int .u32 x.m) := hcl 14 (by decide)
          have k15 : wz.cell? ⟨b, o + q * 16 + 15, none⟩ = some (.int .u32 x.w) := hcl 15 (by decide)
          obtain ⟨w4, hw4⟩ : ∃ w4, w4 = wz.alloc (.cells #[.int .i64 x.kind, .int .i64 x.n, .int .i64 x.ei, .int .i64 x.eg, .slice x.sa x.sl x.sc, .int .i64 x.pc, .int .i64 x.p0, .int .i64 x.p1, .int .i64 x.p2, .int .i64 x.p3, .int .i64 x.pt, .int .i64 x.comp, .int .i64 x.cell, .int .i64 x.value, .int .u32 x.m, .int .u32 x.w] 51) := ⟨_, rfl⟩
          have A4 := hid (A0.out.alloc #[.int .i64 x.kind, .int .i64 x.n, .int .i64 x.ei, .int .i64 x.eg, .slice x.sa x.sl x.sc, .int .i64 x.pc, .int .i64 x.p0, .int .i64 x.p1, .int .i64 x.p2, .int .i64 x.p3, .int .i64 x.pt, .int .i64 x.comp, .int .i64 x.cell, .int .i64 x.value, .int .u32 x.m, .int .u32 x.w] 51)
          rw [← hw4] at A4
          have HW4 := hid hw4
          have hb4 : w4.heap[wz.heap.size]? = some (.cells #[.int .i64 x.kind, .int .i64 x.n, .int .i64 x.ei, .int .i64 x.eg, .slice x.sa x.sl x.sc, .int .i64 x.pc, .int .i64 x.p0, .int .i64 x.p1, .int .i64 x.p2, .int .i64 x.p3, .int .i64 x.pt, .int .i64 x.comp, .int .i64 x.cell, .int .i64 x.value, .int .u32 x.m, .int .u32 x.w] 51 (0, 0)) := A4.out.at (List.mem_cons_self ..)
          have y0 : w4.cell? ⟨wz.heap.size, 0, none⟩ = some (.int .i64 x.kind) := cell_blk hb4 rfl
          have y1 : w4.cell? ⟨wz.heap.size, 1, none⟩ = some (.int .i64 x.n) := cell_blk hb4 rfl
          have y11 : w4.cell? ⟨wz.heap.size, 11, none⟩ = some (.int .i64 x.comp) := cell_blk hb4 rfl
          have y13 : w4.cell? ⟨wz.heap.size, 13, none⟩ = some (.int .i64 x.value) := cell_blk hb4 rfl
          obtain ⟨un, nn, hnn, hun, hrn⟩ := rem_at x.n ts.length hpos
          have hnni : (nn : Int) < (ts.length : Int) := by omega
          clear hcl hx hw4 hb4 A0
          go_upto_region 19 with fail
          rw [← HW4.out]
          clear k0 k1 k2 k3 k4 k5 k6 k7 k8 k9 k10 k11 k12 k13 k14 k15
          by_cases hnk : nn = kw
          · have hnki : (nn : Int) = (kw : Int) := by omega
            have AR := hid (CL.out s ts.length w4 _ (fun x hx => List.mem_cons_of_mem _ hx) A4.out)
            clear HW4 A4
            go_wp2_with fail
            go_roundg (150 - (q + 1))
            case measure => omega
            case rel => exact ⟨q + 1, by omega, rfl, by go_num, s, HO.out, AR.out⟩
          · have hnki : ¬ (nn : Int) = (kw : Int) := by omega
            obtain ⟨uc, cc, hcc, huc, hrc⟩ := rem_at x.comp 8 (by decide)
            have hrc : uc.tmod 8 = (cc : Int) := hrc
            have hcci : (cc : Int) ≤ 7 := by omega
            obtain ⟨w5, hw5⟩ : ∃ w5, w5 = w4.alloc (.cells #[.int .i64 (cc : Int), .int .i64 x.value, .int .i64 0, .int .i64 0, .int .i64 0, .int .i64 0] 47) := ⟨_, rfl⟩
            have hA5 := A4.out.alloc #[.int .i64 (cc : Int), .int .i64 x.value, .int .i64 0, .int .i64 0, .int .i64 0, .int .i64 0] 47
            rw [← hw5] at hA5
            have HW5 := hid hw5
            have hb5 : w5.heap[w4.heap.size]? = some (.cells #[.int .i64 (cc : Int), .int .i64 x.value, .int .i64 0, .int .i64 0, .int .i64 0, .int .i64 0] 47 (0, 0)) := hA5.at (List.mem_cons_self ..)
            have hb4 : w5.heap[wz.heap.size]? = some (.cells #[.int .i64 x.kind, .int .i64 x.n, .int .i64 x.ei, .int .i64 x.eg, .slice x.sa x.sl x.sc, .int .i64 x.pc, .int .i64 x.p0, .int .i64 x.p1, .int .i64 x.p2, .int .i64 x.p3, .int .i64 x.pt, .int .i64 x.comp, .int .i64 x.cell, .int .i64 x.value, .int .u32 x.m, .int .u32 x.w] 51 (0, 0)) := hA5.at (List.mem_cons_of_mem _ (List.mem_cons_self ..))
            obtain ⟨fr5, hfr5⟩ : ∃ fr5 : List (Nat × Obj), fr5 = (w4.heap.size, .cells #[.int .i64 (cc : Int), .int .i64 x.value, .int .i64 0, .int .i64 0, .int .i64 0, .int .i64 0] 47 (0, 0)) :: (wz.heap.size, .cells #[.int .i64 x.kind, .int .i64 x.n, .int .i64 x.ei, .int .i64 x.eg, .slice x.sa x.sl x.sc, .int .i64 x.pc, .int .i64 x.p0, .int .i64 x.p1, .int .i64 x.p2, .int .i64 x.p3, .int .i64 x.pt, .int .i64 x.comp, .int .i64 x.cell, .int .i64 x.value, .int .u32 x.m, .int .u32 x.w] 51 (0, 0)) :: fr0 := ⟨_, rfl⟩
            rw [← hfr5] at hA5
            have hsub : ∀ x ∈ fr0, x ∈ fr5 := fun x hx => by rw [hfr5]; exact List.mem_cons_of_mem _ (List.mem_cons_of_mem _ hx)
            have A5 := hid hA5
            have AR5 := hid (CL.out s ts.length w5 _ hsub A5.out)
            have z0 : w5.cell? ⟨wz.heap.size, 0, none⟩ = some (.int .i64 x.kind) := cell_blk hb4 rfl
            have KA : Hid (∀ s' W', Aw w2 sb s' ts.length fr5 W' → W'.cell? ⟨gb, nn * 2, none⟩ = some (.int .i64 (nn : Int)) ∧ W'.cell? ⟨gb, nn * 2 + 1, none⟩ = some (.int .i64 1) ∧ W'.cell? ⟨w4.heap.size, 0, none⟩ = some (.int .i64 (cc : Int)) ∧ W'.cell? ⟨w4.heap.size, 1, none⟩ = some (.int .i64 x.value) ∧ W'.cell? ⟨w4.heap.size, 2, none⟩ = some (.int .i64 0) ∧ W'.cell? ⟨w4.heap.size, 3, none⟩ = some (.int .i64 0) ∧ W'.cell? ⟨w4.heap.size, 4, none⟩ = some (.int .i64 0) ∧ W'.cell? ⟨w4.heap.size, 5, none⟩ = some (.int .i64 0) ∧ W'.cell? ⟨wz.heap.size, 13, none⟩ = some (.int .i64 x.value)) := fun s' W' hA => by
              obtain ⟨q0, q1⟩ := EC.out _ _ _ nn hnn (CL.out s' ts.length W' _ hsub hA)
              have q2 : W'.heap[w4.heap.size]? = some (.cells #[.int .i64 (cc : Int), .int .i64 x.value, .int .i64 0, .int .i64 0, .int .i64 0, .int .i64 0] 47 (0, 0)) := hA.at (by rw [hfr5]; exact List.mem_cons_self ..)
              have q3 : W'.heap[wz.heap.size]? = some (.cells #[.int .i64 x.kind, .int .i64 x.n, .int .i64 x.ei, .int .i64 x.eg, .slice x.sa x.sl x.sc, .int .i64 x.pc, .int .i64 x.p0, .int .i64 x.p1, .int .i64 x.p2, .int .i64 x.p3, .int .i64 x.pt, .int .i64 x.comp, .int .i64 x.cell, .int .i64 x.value, .int .u32 x.m, .int .u32 x.w] 51 (0, 0)) := hA.at (by rw [hfr5]; exact List.mem_cons_of_mem _ (List.mem_cons_self ..))
              exact ⟨q0, q1, cell_blk q2 rfl, cell_blk q2 rfl, cell_blk q2 rfl, cell_blk q2 rfl, cell_blk q2 rfl, cell_blk q2 rfl, cell_blk q3 rfl⟩
            have KK : Hid (∀ W', Below w5.heap.size w5 W' → W'.cell? ⟨gb, nn * 2, none⟩ = some (.int .i64 (nn : Int)) ∧ W'.cell? ⟨gb, nn * 2 + 1, none⟩ = some (.int .i64 1) ∧ W'.cell? ⟨w4.heap.size, 0, none⟩ = some (.int .i64 (cc : Int)) ∧ W'.cell? ⟨w4.heap.size, 1, none⟩ = some (.int .i64 x.value) ∧ W'.cell? ⟨w4.heap.size, 2, none⟩ = some (.int .i64 0) ∧ W'.cell? ⟨w4.heap.size, 3, none⟩ = some (.int .i64 0) ∧ W'.cell? ⟨w4.heap.size, 4, none⟩ = some (.int .i64 0) ∧ W'.cell? ⟨w4.heap.size, 5, none⟩ = some (.int .i64 0) ∧ W'.cell? ⟨wz.heap.size, 13, none⟩ = some (.int .i64 x.value)) := fun W' hb => by
              exact KA.out s W' (A5.out.later hb)
            have hnI : I64 (nn : Int) := I64_mid (by omega) (by omega)
            have h1I : I64 ((1 : Nat) : Int) := I64_mid (by omega) (by omega)
            have hne : kw ≠ nn := fun e => hnk e.symm
            have NEXT : Hid (∀ s' w', But nn s s' → Aw w2 sb s' ts.length fr5 w' → ∃ s2 : SD, Own kw (L kw) s2 ∧ Ar w2 sb s2 ts.length (.slice (some ⟨gb, 0, none⟩) ts.length lc) (ents ts.length) w') := fun s' w' hb ha => ⟨s', HO.out.but hb hne, CL.out s' ts.length w' _ hsub ha⟩
            clear hb5 hb4 hA5 hw5 A4 HW4 hnk hfr5 hsub
            go_upto_region 22 with fail
            rw [← HW5.out]
            clear y0 y1 y11 y13 huc hrc hun hrn
            obtain ⟨z1, z2, z3, z4, z5, z6, z7, z8, z9⟩ := KK.out _ (Below.refl _ _)
            by_cases hk2 : x.kind = 2
            · have hkb : (x.kind == 2) = true := by simp [hk2]
              rw [hk2] at z0
              have CC : Hid (∀ W', Below w5.heap.size w5 W' → Calls Tryz.prog 18 #[.pointer (some ⟨sb, 0, none⟩), .agg #[.int .i64 (nn : Int), .int .i64 1]] W' fun e w' => ∃ u r, e = .returned (.tuple #[u, r]) ∧ ∃ s', But nn s s' ∧ Aw w2 sb s' ts.length fr5 w') := fun W' hb => any_despawn (A5.out.later hb) E2.out hnI h1I
              have CD := hid (CC.out w5 (Below.refl _ _))
              clear CC hk2 hkb HW5 A5 AR5
              go_wp2_with fail
              refine CD.out.mono ?_
              rintro e w6 ⟨r1, r2, rfl, s', hBu, hA6⟩
              have NX := hid (NEXT.out s' w6 hBu hA6)
              clear CD NEXT hBu hA6 KK KA z0 z1 z2 z3 z4 z5 z6 z7 z8 z9
              go_wp2_with fail
              go_roundg (150 - (q + 1))
              case measure => omega
              case rel =>
                obtain ⟨s2, q1, q2⟩ := NX.out
                exact ⟨q + 1, by omega, rfl, by go_num, s2, q1, q2⟩
            by_cases hk3 : x.kind = 3
            · have hkb : (x.kind == 3) = true := by simp [hk3]
              rw [hk3] at z0
              have CC : Hid (∀ W', Below w5.heap.size w5 W' → Calls Tryz.prog 21 #[.pointer (some ⟨sb, 0, none⟩), .agg #[.int .i64 (nn : Int), .int .i64 1], .agg #[.int .i64 (cc : Int), .int .i64 x.value, .int .i64 0, .int .i64 0, .int .i64 0, .int .i64 0]] W' fun e w' => ∃ r, e = .returned r ∧ ∃ s', But nn s s' ∧ Aw w2 sb s' ts.length fr5 w') := fun W' hb => any_insert (A5.out.later hb) E2.out hnI h1I ⟨(cc : Int), x.value, 0, 0, 0, 0⟩ (by rw [HO.out.ws]; exact fit_one hcc x.value 0) (show I64 0 from I64_mid (by decide) (by decide))
              clear hk3 hkb HW5 A5 AR5 z1 z2 z3 z4 z5 z6 z7 z8 z9
              go_upto_region 26 with fail
              go_region_held3 (fun W' => W'.cell? ⟨gb, nn * 2, none⟩ = some (.int .i64 (nn : Int)) ∧ W'.cell? ⟨gb, nn * 2 + 1, none⟩ = some (.int .i64 1) ∧ W'.cell? ⟨w4.heap.size, 0, none⟩ = some (.int .i64 (cc : Int)) ∧ W'.cell? ⟨w4.heap.size, 1, none⟩ = some (.int .i64 x.value) ∧ W'.cell? ⟨w4.heap.size, 2, none⟩ = some (.int .i64 0) ∧ W'.cell? ⟨w4.heap.size, 3, none⟩ = some (.int .i64 0) ∧ W'.cell? ⟨w4.heap.size, 4, none⟩ = some (.int .i64 0) ∧ W'.cell? ⟨w4.heap.size, 5, none⟩ = some (.int .i64 0) ∧ W'.cell? ⟨wz.heap.size, 13, none⟩ = some (.int .i64 x.value))
                (first | exact K6 | exact KK.out _ (Below.refl _ _).drew | exact KK.out _ (Below.refl _ _))
                ((go_at_call 21; refine (CC.out _ (by first | exact (Below.refl _ _).drew | exact Below.refl _ _)).mono ?_; rintro e w6 ⟨r, rfl, s', hBu, hA6⟩; have K6 := KA.out s' w6 hA6))
              have NX := hid (NEXT.out s' w6 hBu hA6)
              clear CC NEXT hBu hA6 KK KA z0 K6
              go_wp2_with fail
              go_roundg (150 - (q + 1))
              case measure => omega
              case rel =>
                obtain ⟨s2, q1, q2⟩ := NX.out
                exact ⟨q + 1, by omega, rfl, by go_num, s2, q1, q2⟩
            by_cases hk4 : x.kind = 4
            · have hkb : (x.kind == 4) = true := by simp [hk4]
              rw [hk4] at z0
              have CC : Hid (∀ W', Below w5.heap.size w5 W' → Calls Tryz.prog 23 #[.pointer (some ⟨sb, 0, none⟩), .agg #[.int .i64 (nn : Int), .int .i64 1], .int .i64 (cc : Int)] W' fun e w' => ∃ u r, e = .returned (.tuple #[u, r]) ∧ ∃ s', But nn s s' ∧ Aw w2 sb s' ts.length fr5 w') := fun W' hb => any_remove (A5.out.later hb) E2.out hnI h1I (cc : Int) (I64_mid (by omega) (by omega))
              clear hk4 hkb HW5 A5 AR5 z1 z2 z3 z4 z5 z6 z7 z8 z9
              go_upto_region 28 with fail
              go_region_held3 (fun W' => W'.cell? ⟨gb, nn * 2, none⟩ = some (.int .i64 (nn : Int)) ∧ W'.cell? ⟨gb, nn * 2 + 1, none⟩ = some (.int .i64 1) ∧ W'.cell? ⟨w4.heap.size, 0, none⟩ = some (.int .i64 (cc : Int)) ∧ W'.cell? ⟨w4.heap.size, 1, none⟩ = some (.int .i64 x.value) ∧ W'.cell? ⟨w4.heap.size, 2, none⟩ = some (.int .i64 0) ∧ W'.cell? ⟨w4.heap.size, 3, none⟩ = some (.int .i64 0) ∧ W'.cell? ⟨w4.heap.size, 4, none⟩ = some (.int .i64 0) ∧ W'.cell? ⟨w4.heap.size, 5, none⟩ = some (.int .i64 0) ∧ W'.cell? ⟨wz.heap.size, 13, none⟩ = some (.int .i64 x.value))
                (first | exact K6 | exact KK.out _ (Below.refl _ _).drew | exact KK.out _ (Below.refl _ _))
                ((go_at_call 23; refine (CC.out _ (by first | exact (Below.refl _ _).drew | exact Below.refl _ _)).mono ?_; rintro e w6 ⟨r1, r2, rfl, s', hBu, hA6⟩; have K6 := KA.out s' w6 hA6))
              have NX := hid (NEXT.out s' w6 hBu hA6)
              clear CC NEXT hBu hA6 KK KA z0 K6
              go_wp2_with fail
              go_roundg (150 - (q + 1))
              case measure => omega
              case rel =>
                obtain ⟨s2, q1, q2⟩ := NX.out
                exact ⟨q + 1, by omega, rfl, by go_num, s2, q1, q2⟩
            by_cases hk5 : x.kind = 5
            · have hkb : (x.kind == 5) = true := by simp [hk5]
              rw [hk5] at z0
              have CC : Hid (∀ W', Below w5.heap.size w5 W' → Calls Tryz.prog 25 #[.pointer (some ⟨sb, 0, none⟩), .agg #[.int .i64 (nn : Int), .int .i64 1], .agg #[.int .i64 (cc : Int), .int .i64 x.value, .int .i64 0, .int .i64 0, .int .i64 0, .int .i64 0]] W' fun e w' => ∃ u r, e = .returned (.tuple #[u, r]) ∧ ∃ s', But nn s s' ∧ Aw w2 sb s' ts.length fr5 w') := fun W' hb => any_put (A5.out.later hb) E2.out hnI h1I ⟨(cc : Int), x.value, 0, 0, 0, 0⟩ (by rw [HO.out.ws]; exact fit_one hcc x.value 0) (show I64 0 from I64_mid (by decide) (by decide))
              clear hk5 hkb HW5 A5 AR5 z1 z2 z3 z4 z5 z6 z7 z8 z9
              go_upto_region 30 with fail
              go_region_held3 (fun W' => W'.cell? ⟨gb, nn * 2, none⟩ = some (.int .i64 (nn : Int)) ∧ W'.cell? ⟨gb, nn * 2 + 1, none⟩ = some (.int .i64 1) ∧ W'.cell? ⟨w4.heap.size, 0, none⟩ = some (.int .i64 (cc : Int)) ∧ W'.cell? ⟨w4.heap.size, 1, none⟩ = some (.int .i64 x.value) ∧ W'.cell? ⟨w4.heap.size, 2, none⟩ = some (.int .i64 0) ∧ W'.cell? ⟨w4.heap.size, 3, none⟩ = some (.int .i64 0) ∧ W'.cell? ⟨w4.heap.size, 4, none⟩ = some (.int .i64 0) ∧ W'.cell? ⟨w4.heap.size, 5, none⟩ = some (.int .i64 0) ∧ W'.cell? ⟨wz.heap.size, 13, none⟩ = some (.int .i64 x.value))
                (first | exact K6 | exact KK.out _ (Below.refl _ _).drew | exact KK.out _ (Below.refl _ _))
                ((go_at_call 25; refine (CC.out _ (by first | exact (Below.refl _ _).drew | exact Below.refl _ _)).mono ?_; rintro e w6 ⟨r1, r2, rfl, s', hBu, hA6⟩; have K6 := KA.out s' w6 hA6))
              have NX := hid (NEXT.out s' w6 hBu hA6)
              clear CC NEXT hBu hA6 KK KA z0 K6
              go_wp2_with fail
              go_roundg (150 - (q + 1))
              case measure => omega
              case rel =>
                obtain ⟨s2, q1, q2⟩ := NX.out
                exact ⟨q + 1, by omega, rfl, by go_num, s2, q1, q2⟩
            by_cases hk6 : x.kind = 6
            · have hkb : (x.kind == 6) = true := by simp [hk6]
              rw [hk6] at z0
              have CC : Hid (∀ W', Below w5.heap.size w5 W' → Calls Tryz.prog 27 #[.pointer (some ⟨sb, 0, none⟩), .agg #[.int .i64 (nn : Int), .int .i64 1], .int .i64 (cc : Int), .int .i64 0, .int .i64 x.value, .int .i64 (q : Int)] W' fun e w' => ∃ u r, e = .returned (.tuple #[u, r]) ∧ ∃ s', But nn s s' ∧ Aw w2 sb s' ts.length fr5 w') := fun W' hb => any_set (A5.out.later hb) E2.out hnI h1I hcc HO.out.ws x.value (q : Int) (I64_mid (by omega) (by omega))
              clear hk6 hkb HW5 A5 AR5 z1 z2 z3 z4 z5 z6 z7 z8 z9
              go_upto_region 32 with fail
              go_region_held3 (fun W' => W'.cell? ⟨gb, nn * 2, none⟩ = some (.int .i64 (nn : Int)) ∧ W'.cell? ⟨gb, nn * 2 + 1, none⟩ = some (.int .i64 1) ∧ W'.cell? ⟨w4.heap.size, 0, none⟩ = some (.int .i64 (cc : Int)) ∧ W'.cell? ⟨w4.heap.size, 1, none⟩ = some (.int .i64 x.value) ∧ W'.cell? ⟨w4.heap.size, 2, none⟩ = some (.int .i64 0) ∧ W'.cell? ⟨w4.heap.size, 3, none⟩ = some (.int .i64 0) ∧ W'.cell? ⟨w4.heap.size, 4, none⟩ = some (.int .i64 0) ∧ W'.cell? ⟨w4.heap.size, 5, none⟩ = some (.int .i64 0) ∧ W'.cell? ⟨wz.heap.size, 13, none⟩ = some (.int .i64 x.value))
                (first | exact K6 | exact KK.out _ (Below.refl _ _).drew | exact KK.out _ (Below.refl _ _))
                ((go_at_call 27; refine (CC.out _ (by first | exact (Below.refl _ _).drew | exact Below.refl _ _)).mono ?_; rintro e w6 ⟨r1, r2, rfl, s', hBu, hA6⟩; have K6 := KA.out s' w6 hA6))
              have NX := hid (NEXT.out s' w6 hBu hA6)
              clear CC NEXT hBu hA6 KK KA z0 K6
              go_wp2_with fail
              go_roundg (150 - (q + 1))
              case measure => omega
              case rel =>
                obtain ⟨s2, q1, q2⟩ := NX.out
                exact ⟨q + 1, by omega, rfl, by go_num, s2, q1, q2⟩
            have j2 : (x.kind == 2) = false := by simp [hk2]
            have j3 : (x.kind == 3) = false := by simp [hk3]
            have j4 : (x.kind == 4) = false := by simp [hk4]
            have j5 : (x.kind == 5) = false := by simp [hk5]
            have j6 : (x.kind == 6) = false := by simp [hk6]
            clear hk2 hk3 hk4 hk5 hk6 NEXT KK KA A5 HW5 z1 z2 z3 z4 z5 z6 z7 z8 z9
            go_wp2_with fail
            go_roundg (150 - (q + 1))
            case measure => omega
            case rel => exact ⟨q + 1, by omega, rfl, by go_num, s, HO.out, AR5.out⟩
        · have XX := hid (EC.out _ _ _ kw hkw HA.out)
          obtain ⟨x0, x1⟩ := XX.out
          obtain ⟨t, ht⟩ := at_lt ts kw hkw
          obtain ⟨b, o, rfl, d0⟩ : ∃ b o, a = some ⟨b, o, none⟩ ∧ ∀ w', Below w.heap.size w w' → w'.cell? ⟨b, o + kw, none⟩ = some (.int .u32 (t : Int)) := by
            obtain ⟨-, a', c', hv, hl⟩ := HT.out
            obtain ⟨rfl, rfl⟩ : a = a' ∧ c = c' := by simpa using hv
            rcases hl with h | ⟨b, o, h4, h5⟩
            · rw [h] at hkw; simp at hkw
            · exact ⟨b, o, h4, fun w' hb => At.seen hb (Nat.le_refl _) (h5 kw t ht)⟩
          have D0 := hid d0
          have ha := and8 t (HT.out.1 t (List.mem_of_getElem? ht))
          have hL : L kw = lawL (t % 256) (100 * (kw : Int)) 8 := by rw [HLD.out]; show lawL (ts.getD kw 0 % 256) _ 8 = _; rw [List.getD_eq_getElem?_getD, ht]; rfl
          have hmul : IntKind.i64.wrap (100 * (kw : Int)) = 100 * (kw : Int) := Co.wrap_mid (by omega) (by omega)
          have hat : s.at kw = lawL (t % 256) (100 * (kw : Int)) 8 := HO.out.at'.trans hL
          have hmsk : mskP (s.at kw) = t % 256 := by rw [hat, law_msk, Nat.mod_mod]
          have PT : Hid (Calls Tryz.prog 42 #[.pointer (some ⟨sb, 0, none⟩), .agg #[.int .i64 (kw : Int), .int .i64 1]] wz fun e w' => ∃ va vc, e = .returned (.tuple #[.slice va (lawL (t % 256) (100 * (kw : Int)) 8).length vc, .nilIface]) ∧ PRow w' (.slice va (lawL (t % 256) (100 * (kw : Int)) 8).length vc) (lawL (t % 256) (100 * (kw : Int)) 8) ∧ Aw w2 sb s ts.length fr0 w') := by
            have := aw_parts2 A0.out HO.out.al
            rw [hat] at this
            exact this
          have MS : Hid (∀ w', Aw w2 sb s ts.length fr0 w' → Calls Tryz.prog 43 #[.pointer (some ⟨sb, 0, none⟩), .agg #[.int .i64 (kw : Int), .int .i64 1]] w' fun e w2' => e = .returned (.tuple #[.int .u32 ((t % 256 : Nat) : Int), .nilIface]) ∧ Below w'.heap.size w' w2') := fun w' h => by
            obtain ⟨c, e1, e2, e3⟩ := h.ex
            have := mask_ok e1 HO.out.al
            rw [hmsk] at this
            exact this
          have SM : Hid (∀ W' u va vc, PRow W' u (lawL (t % 256) (100 * (kw : Int)) 8) → PRow W' (.slice va (lawL (t % 256) (100 * (kw : Int)) 8).length vc) (lawL (t % 256) (100 * (kw : Int)) 8) → Calls Tryz.prog 20 #[.slice va (lawL (t % 256) (100 * (kw : Int)) 8).length vc, u] W' fun e w' => e = .returned (.bool true) ∧ Below W'.heap.size W' w') := fun W' u va vc h1 h2 => by
            have hl := lawL_len (t % 256) (100 * (kw : Int)) 8
            exact Rs.same_any W' _ u _ h2 h1 (by omega)
          have PC := hid (fun W' => parts_any W' (t % 256) (100 * (kw : Int)))
          generalize t % 256 = t' at *
          clear ht hL hat hmsk XX
          by_cases h1 : q < cl.length
          · have h1i : (q : Int) < (cl.length : Int) := by omega
            have h2i : ¬ (q : Int) < 150 := by omega
            clear hc h1
            go_wp2_with fail
            refine PT.out.mono ?_
            rintro e w11 ⟨va1, vc1, rfl, hP11, hA11⟩
            have A11 := hid hA11
            have P11 := hid hP11
            obtain ⟨x0, x1⟩ := EC.out _ _ _ kw hkw (CL.out s ts.length w11 _ (fun _ hx => hx) hA11)
            have MK := hid (MS.out w11 hA11)
            clear PT hP11 hA11
            go_wp2_with fail
            refine MK.out.mono ?_
            rintro e w12 ⟨rfl, hb12⟩
            have A12 := hid (A11.out.later hb12)
            have P12 := hid (P11.out.later hb12)
            have BR2 := hid (B2.out.trans (A12.out.bel.mono B2.out.size))
            have d1 := D0.out _ BR2.out
            clear MK hb12 x0 x1 A11 P11
            go_wp2_with fail
            refine (PC.out _).mono ?_
            rintro e w13 ⟨u13, rfl, hu13, hb13⟩
            have SQ := hid (SM.out w13 u13 va1 vc1 hu13.row (P12.out.later hb13))
            have B13 := hid (BR2.out.trans (hb13.mono BR2.out.size))
            clear hu13 hb13 d1
            go_wp2_with fail
            refine SQ.out.mono ?_
            rintro e w14 ⟨rfl, hb14⟩
            have BF := hid (B13.out.trans (hb14.mono B13.out.size))
            clear SQ hb14
            go_wp2_with fail
            go_ret
            exact ⟨rfl, BF.out⟩
          · have h1i : ¬ (q : Int) < (cl.length : Int) := by omega
            clear hc h1
            go_wp2_with fail
            refine PT.out.mono ?_
            rintro e w11 ⟨va1, vc1, rfl, hP11, hA11⟩
            have A11 := hid hA11
            have P11 := hid hP11
            obtain ⟨x0, x1⟩ := EC.out _ _ _ kw hkw (CL.out s ts.length w11 _ (fun _ hx => hx) hA11)
            have MK := hid (MS.out w11 hA11)
            clear PT hP11 hA11
            go_wp2_with fail
            refine MK.out.mono ?_
            rintro e w12 ⟨rfl, hb12⟩
            have A12 := hid (A11.out.later hb12)
            have P12 := hid (P11.out.later hb12)
            have BR2 := hid (B2.out.trans (A12.out.bel.mono B2.out.size))
            have d1 := D0.out _ BR2.out
            clear MK hb12 x0 x1 A11 P11
            go_wp2_with fail
            refine (PC.out _).mono ?_
            rintro e w13 ⟨u13, rfl, hu13, hb13⟩
            have SQ := hid (SM.out w13 u13 va1 vc1 hu13.row (P12.out.later hb13))
            have B13 := hid (BR2.out.trans (hb13.mono BR2.out.size))
            clear hu13 hb13 d1
            go_wp2_with fail
            refine SQ.out.mono ?_
            rintro e w14 ⟨rfl, hb14⟩
            have BF := hid (B13.out.trans (hb14.mono B13.out.size))
            clear SQ hb14
            go_wp2_with fail
            go_ret
            exact ⟨rfl, BF.out⟩
end Go.Proofs.YtagjmggiaffihaaGreatDoor.So
