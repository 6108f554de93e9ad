/- RollAgain: the walk. -/
import Derived.Test.YtdpoojopipcffaaDoorRi
namespace Go.Proofs.YtdpoojopipcffaaDoor
open Go.RowKit Go.Shelf Go.Maps
theorem RS.took_len (r : RS) (i : Nat) : (r.took i).gens.length = r.gens.length := by simp [RS.took]
theorem RS.took_count {r : RS} {f : List Nat} {i : Nat} (hf : r.free = f ++ [i]) : (r.took i).free.length = f.length := by simp [RS.took, hf]
theorem RS.took_own {r : RS} {f : List Nat} {i : Nat} (h : r.ok) (hf : r.free = f ++ [i]) : (r.took i).aliveB (i : Int) ((r.gens.getD i 0 : Nat) + 1 : Int) = true := by
  rw [RS.took_alive h hf, if_pos ⟨rfl, by omega⟩]
theorem I64_mid {n : Int} (h0 : -1000000 ≤ n) (h1 : n ≤ 1000000) : I64 n := by
  unfold I64 Lit.wf
  simp [IntKind.min, IntKind.max, IntKind.signed, IntKind.bits]
  omega
theorem RS.alive_less {r : RS} {k : Nat} (hk : k < r.gens.length) : r.aliveB (k : Int) (((r.gens.getD k 0 : Nat) : Int) - 1) = false := by
  rw [Bool.eq_false_iff]
  intro h
  obtain ⟨_, h2, _, h4⟩ := (RS.aliveB_iff _ _ _).1 h
  have h5 : r.gens[k]? = some (r.gens.getD k 0) := by rw [List.getD_eq_getElem?_getD, List.getElem?_eq_getElem hk]; rfl
  rw [Int.toNat_natCast, h5] at h4
  simp only [Option.some.injEq] at h4
  omega
theorem RS.gen_le {B : Nat} {W : World} {rb t : Nat} {r : RS} {S : Nat → Prop} (h : Rol B W rb t r S) {k : Nat} (hk : k < r.gens.length) : r.gens.getD k 0 ≤ t := by
  rw [List.getD_eq_getElem?_getD, List.getElem?_eq_getElem hk]; exact h.old _ (List.getElem_mem hk)
set_option maxHeartbeats 6400000 in
set_option maxRecDepth 100000 in
theorem again_law (w : World) (Ad : Nat → Addr) (hE : Env4 w Ad) (pl : Int) (v : Value) (cl : List ActI) (hA : ActRow w v cl) :
    Calls Tryd.prog 5 #[.int .i64 pl, v] w fun e w' => e = .returned (.bool true) ∧ Below w.heap.size w w' := by
  have HE := hid hE
  have HA := hid hA
  obtain ⟨a, c, rfl, -, -⟩ := hA
  obtain ⟨u, n, hn, hu, hr⟩ := rem_at pl 65 (by decide)
  have hr : u.tmod 65 = (n : Int) := hr
  have hni : (n : Int) ≤ 64 := by omega
  have AW := hid (awake_any w Ad hE)
  clear hE
  go_enter Tryd.func5, Tryd.ntmps5
  go_wp2_with fail
  refine AW.out.mono ?_
  rintro e w1 ⟨rfl, b1⟩
  have B1 := hid b1
  have NC := hid (rol_new w1 n (by omega))
  clear AW b1
  go_wp2_with fail
  refine NC.out.mono ?_
  rintro e w2 ⟨rb, S, rfl, h2, b2⟩
  have B2 := hid (B1.out.trans (b2.mono B1.out.size))
  have R2 := hid h2
  have hB : w.heap.size ≤ w1.heap.size := B1.out.size
  clear NC b2 h2 hu hr
  go_wp2_with fail
  go_loopw [8, 9] (fun i _ wr => ∃ k : Nat, k ≤ 200 ∧ i = .int .i64 (k : Int) ∧ ∃ (r : RS) (t : Nat) (S : Nat → Prop), t ≤ k ∧ Hid (r.gens.length = n) ∧ Hid (Rol w1.heap.size wr rb t r S) ∧ Hid (Below w.heap.size w wr)) (fun i _ _ => 200 - (intOf i).toNat)
  case atStart => exact ⟨0, by omega, rfl, _, 0, S, Nat.le_refl _, by simp [RS.fresh, Hid], R2.out, B2.out⟩
  case round =>
    obtain ⟨k, hk, rfl, r, t, S, htk, HL, HR, HB⟩ := hrel
    clear R2 B2
    by_cases hc : k < cl.length ∧ k < 200
    · obtain ⟨h1, h2⟩ := hc
      have h1i : (k : Int) < (cl.length : Int) := by omega
      have h2i : (k : Int) < 200 := by omega
      obtain ⟨x, hx⟩ := at_lt cl k h1
      obtain ⟨a', c', hv, hw, hl⟩ := HA.out.later HB.out
      obtain ⟨b, o, rfl, hcl⟩ : ∃ b o, a = some ⟨b, o, none⟩ ∧ ∀ (j : Nat) (x : ActI), cl[j]? = some x → wr.cell? ⟨b, o + j * 4, none⟩ = some (.int .i64 x.kind) ∧ wr.cell? ⟨b, o + j * 4 + 1, none⟩ = some (.int .i64 x.i) ∧ wr.cell? ⟨b, o + j * 4 + 2, none⟩ = some (.int .i64 x.g) ∧ wr.cell? ⟨b, o + j * 4 + 3, none⟩ = some (.int .i64 x.n) := by
        obtain ⟨rfl, rfl⟩ : a = a' ∧ c = c' := by simpa using hv
        rcases hl with h | h
        · rw [h] at h1; simp at h1
        · exact h
      obtain ⟨c0, c1, c2, c3⟩ := hcl k x hx
      clear hcl hx hv hw hl
      by_cases hk1 : x.kind = 1
      · have q1 : (x.kind == 1) = true := by simp [hk1]
        rw [hk1] at c0
        by_cases hf : r.free = []
        · have TF := hid (rol_full Ad HR.out (HE.out.later HB.out) hf)
          clear hf q1 hk1
          go_wp2_with fail
          refine TF.out.mono ?_
          rintro e w3 ⟨bf, rfl, -, -, b3⟩
          have B3 := hid b3
          clear b3 TF
          go_wp2_with fail
          go_roundw
          case rel => exact ⟨k + 1, by omega, by go_num, r, t, S, by omega, HL.out, HR.out.later B3.out, HB.out.trans (B3.out.mono HB.out.size)⟩
          case measure => simp [intOf]; omega
        · obtain ⟨f, i, hf⟩ := free_split hf
          have TS := hid (rol_take HR.out hf (by omega))
          clear q1 hk1
          have HF := hid hf
          clear hf
          go_wp2_with fail
          refine TS.out.mono ?_
          rintro e w3 ⟨rfl, h3, s3⟩
          have H3 := hid h3
          have S3 := hid s3
          clear h3 s3 TS
          go_wp2_with fail
          go_roundw
          case rel => exact ⟨k + 1, by omega, by go_num, r.took i, t + 1, S, by omega, by show _ = _; rw [RS.took_len]; exact HL.out, H3.out, HB.out.trans ((HR.out.below S3.out).mono hB)⟩
          case measure => simp [intOf]; omega
      · have q1 : (x.kind == 1) = false := by simp [hk1]
        have LC := hid (rol_list HR.out (by omega))
        clear hk1
        go_wp2_with fail
        refine LC.out.mono ?_
        rintro e w3 ⟨lv, rfl, hl3, b3⟩
        have B3 := hid b3
        obtain ⟨la, lc, rfl⟩ := hl3.slice
        have L3 := hid hl3
        have R3 := hid (HR.out.later b3)
        have BB := hid (HB.out.trans (b3.mono HB.out.size))
        have hll : (r.all.length : Int) ≤ 64 := by have := r.upto_len r.gens.length; have := HR.out.small; show ((r.upto r.gens.length).length : Int) ≤ 64; omega
        have c3 := seen b3 (Nat.le_refl _) c3
        clear hl3 b3 LC
        by_cases h0 : 0 < r.all.length
        · have h0i : (0 : Int) < (r.all.length : Int) := by omega
          obtain ⟨g, rfl, hg1, hg2⟩ := L3.out.some h0
          obtain ⟨u', j, hj, hu', hr'⟩ := rem_at x.n r.all.length h0
          obtain ⟨p, hp⟩ := at_lt r.all j hj
          obtain ⟨d0, d1⟩ := L3.out.cell hp
          obtain ⟨ha, hpl⟩ := RS.all_alive (List.mem_of_getElem? hp)
          have hji : (j : Int) < (r.all.length : Int) := by omega
          have hp2 : I64 (p.2 : Int) := I64_small (by omega) (by
            obtain ⟨e1, e2, e3⟩ := RS.upto_mem (List.mem_of_getElem? hp)
            have : r.gens.getD p.1 0 ≤ t := by rw [List.getD_eq_getElem?_getD, List.getElem?_eq_getElem hpl]; exact HR.out.old _ (List.getElem_mem hpl)
            omega)
          have hp1 : I64 (p.1 : Int) := I64_small (by omega) (by have := HR.out.small; omega)
          have FC := hid (rol_free R3.out p.1 (p.2 : Int) hp1 hp2 ha)
          have HU := hu'
          clear ha hp hp1 hp2 hpl
          go_wp2_with fail
          refine FC.out.mono ?_
          rintro e w4 ⟨rfl, S', h4, s4, -⟩
          have H4 := hid h4
          have S4 := hid s4
          clear h4 s4 FC HU hu' hr' d0 d1
          go_wp2_with fail
          go_roundw
          case rel => exact ⟨k + 1, by omega, by go_num, r.freed p.1, t, S', by omega, HL.out, H4.out, BB.out.trans ((R3.out.below S4.out).mono hB)⟩
          case measure => simp [intOf]; omega
        · have h0i : ¬ ((0 : Int) < (r.all.length : Int)) := by omega
          go_wp2_with fail
          go_roundw
          case rel => exact ⟨k + 1, by omega, by go_num, r, t, S, by omega, HL.out, R3.out, BB.out⟩
          case measure => simp [intOf]; omega
    · have CC := hid (rol_count HR.out)
      have hcn : r.count ≤ n := by have := HL.out; unfold RS.count; omega
      have hcni : (r.count : Int) ≤ 64 := by omega
      by_cases h1 : k < cl.length
      · have h1i : (k : Int) < (cl.length : Int) := by omega
        have h2i : ¬ ((k : Int) < 200) := by omega
        clear hc
        rename World => wo
        go_wp2_with fail
        refine CC.out.mono ?_
        rintro e w3 ⟨rfl, rfl⟩
        clear CC h1i h2i h1
        go_wp2_with fail
        go_loopw [10, 11, 12] (fun i _ _ wq => ∃ q : Nat, q ≤ n ∧ i = .int .i64 (q : Int) ∧ ∃ (r : RS) (t : Nat) (S : Nat → Prop), t ≤ 200 + q ∧ Hid (r.gens.length = n) ∧ Hid (r.count = q) ∧ Hid (Rol w1.heap.size wq rb t r S) ∧ Hid (Below w.heap.size w wq)) (fun i _ _ _ => n - (intOf i).toNat)
        case atStart => exact ⟨r.count, hcn, rfl, r, t, S, by omega, HL.out, rfl, HR.out, HB.out⟩
        case round =>
          clear HL HR HB hcn hcni htk
          obtain ⟨q, hqn, rfl, r, t, S, htq, HL, HC, HR, HB⟩ := hrel
          by_cases hlt : q < n
          · have hqi : (q : Int) < (n : Int) := by omega
            obtain ⟨f, i, hf⟩ := free_split (r := r) (by
              intro e
              have h1 := HC.out
              have h2 := HL.out
              unfold RS.count at h1
              rw [e] at h1
              simp at h1
              omega)
            have hi : i < n := by have := HR.out.ok.2 i (by rw [hf]; simp); have := HL.out; omega
            have hii : (i : Int) < (n : Int) := by omega
            have hi0 : ¬ ((i : Int) < 0) := by omega
            have hin : ¬ ((n : Int) ≤ (i : Int)) := by omega
            have hcf : Hid ((r.took i).count = q + 1) := by
              have h1 := HC.out
              have h2 : r.free.length = f.length + 1 := by rw [hf]; simp
              have h3 := HR.out.few
              show (r.took i).count = q + 1
              unfold RS.count at h1 ⊢
              rw [RS.took_len, RS.took_count hf]
              omega
            have TS := hid (rol_take HR.out hf (by omega))
            have OW := hid (RS.took_own HR.out.ok hf)
            have hgl := RS.gen_le HR.out (show i < r.gens.length by have := HL.out; omega)
            obtain ⟨g, hg⟩ : ∃ g, g = r.gens.getD i 0 := ⟨_, rfl⟩
            rw [← hg] at TS OW hgl
            have hg64 : (g : Int) ≤ 1000 := by omega
            clear hg hf
            rename World => wp
            go_wp2_with fail
            refine TS.out.mono ?_
            rintro e w4 ⟨rfl, h4, s4⟩
            have B4 := hid (HB.out.trans ((HR.out.below s4).mono hB))
            have H4 := hid (h4.later (bAl w4 (.cells #[.int .i64 (i : Int), .int .i64 ((g : Int) + 1)] 24)))
            have B4' := hid (B4.out.trans ((bAl w4 (.cells #[.int .i64 (i : Int), .int .i64 ((g : Int) + 1)] 24)).mono B4.out.size))
            have AC := hid (rol_alive H4.out (i : Int) ((g : Int) + 1) (I64_small (by omega) (by omega)) (I64_small (by omega) (by omega)))
            rw [OW.out] at AC
            clear h4 s4 TS OW
            go_wp2_with fail
            refine AC.out.mono ?_
            rintro e w5 ⟨rfl, b5⟩
            have H5 := hid (H4.out.later b5)
            have B5 := hid (B4'.out.trans (b5.mono B4'.out.size))
            clear b5 AC
            go_wp2_with fail
            go_roundw
            case rel => exact ⟨q + 1, by omega, by go_num, r.took i, t + 1, S, by omega, by show _ = _; rw [RS.took_len]; exact HL.out, hcf.out, H5.out, B5.out⟩
            case measure => simp [intOf]; omega
          · have hqi : ¬ ((q : Int) < (n : Int)) := by omega
            have hf : r.free = [] := by
              have h1 := HC.out
              have h2 := HL.out
              have h3 := HR.out.few
              unfold RS.count at h1
              exact List.eq_nil_of_length_eq_zero (by omega)
            have TF := hid (rol_full Ad HR.out (HE.out.later HB.out) hf)
            have AF := hid (fun (j : Nat) (hj : j < n) => RS.all_full hf (k := j) (by have := HL.out; omega))
            have AN : r.all.length = n := by rw [RS.all_len hf]; exact HL.out
            clear hf
            rename World => wp
            go_wp2_with fail
            refine TF.out.mono ?_
            rintro e w4 ⟨bf, rfl, -, -, b4⟩
            have b4' := b4.trans ((bAl w4 (.cells #[.int .i64 0, .int .i64 0] 24)).mono b4.size)
            have H4 := hid (HR.out.later b4')
            have B4 := hid (HB.out.trans (b4'.mono HB.out.size))
            have LC := hid (rol_list H4.out (by omega))
            clear b4 b4' TF
            go_wp2_with fail
            refine LC.out.mono ?_
            rintro e w5 ⟨lv, rfl, hl5, b5⟩
            obtain ⟨la, lc, rfl⟩ := hl5.slice
            have L5 := hid hl5
            have H5 := hid (H4.out.later b5)
            have B5 := hid (B4.out.trans (b5.mono B4.out.size))
            rw [AN] at L5 ⊢
            have HAN := hid AN
            clear b5 LC hl5 AN
            go_wp2_with fail
            go_loopw [16] (fun i wz => ∃ j : Nat, j ≤ n ∧ i = .int .i64 (j : Int) ∧ Hid (Below w5.heap.size w5 wz)) (fun i _ => n - (intOf i).toNat)
            case atStart => exact ⟨0, Nat.zero_le _, rfl, Below.refl _ _⟩
            case round =>
              rename World => wz
              obtain ⟨j, hjn, rfl, HZ⟩ := hrel
              by_cases hjl : j < n
              · have hji : (j : Int) < (n : Int) := by omega
                have L6 := Ents.later L5.out HZ.out
                have L6' : Ents (w4.alloc (.cells #[.int .i64 0, .int .i64 0] 24)).heap.size wz (.slice la r.all.length lc) r.all := by rw [HAN.out]; exact L6
                obtain ⟨g, rfl, -, -⟩ := L6'.some (by rw [HAN.out]; omega)
                obtain ⟨d0, d1⟩ := L6'.cell (AF.out j hjl)
                have hjr : j < r.gens.length := by have := HL.out; omega
                have hgl := RS.gen_le HR.out hjr
                have A1 := RS.alive_at (r := r) hjr
                have hnf : r.free = [] := by
                  have h1 := HC.out
                  have h3 := HR.out.few
                  have h2 := HL.out
                  unfold RS.count at h1
                  exact List.eq_nil_of_length_eq_zero (by omega)
                rw [hnf] at A1
                simp only [List.not_mem_nil, not_false_eq_true, decide_true] at A1
                have A2 := RS.alive_less (r := r) hjr
                simp only at d0 d1
                obtain ⟨gg, hg⟩ : ∃ gg, gg = r.gens.getD j 0 := ⟨_, rfl⟩
                rw [← hg] at d1 hgl A1 A2
                have hg64 : (gg : Int) ≤ 1000 := by omega
                have AC1 := hid (fun W (hb : Below w5.heap.size w5 W) => rol_alive (H5.out.later hb) (j : Int) (gg : Int) (I64_small (by omega) (by omega)) (I64_small (by omega) (by omega)))
                have AC2 := hid (fun W (hb : Below w5.heap.size w5 W) => rol_alive (H5.out.later hb) (j : Int) ((gg : Int) - 1) (I64_small (by omega) (by omega)) (I64_mid (by omega) (by omega)))
                rw [A1] at AC1
                rw [A2] at AC2
                clear hg A1 A2 L6 L6' hnf
                go_wp2_with fail
                refine (AC1.out _ HZ.out).mono ?_
                rintro e w6 ⟨rfl, b6⟩
                have B6 := hid (HZ.out.trans (b6.mono HZ.out.size))
                have d0 := seen b6 (Nat.le_refl _) d0
                have d1 := seen b6 (Nat.le_refl _) d1
                clear b6 AC1
                go_wp2_with fail
                refine (AC2.out _ B6.out).mono ?_
                rintro e w7 ⟨rfl, b7⟩
                have B7 := hid (B6.out.trans (b7.mono B6.out.size))
                clear b7 AC2
                go_wp2_with fail
                go_roundw
                case rel => exact ⟨j + 1, by omega, by go_num, B7.out⟩
                case measure => simp [intOf]; omega
              · have hji : ¬ ((j : Int) < (n : Int)) := by omega
                go_wp2_with fail
                go_ret
                exact ⟨rfl, B5.out.trans (HZ.out.mono B5.out.size)⟩
      · have h1i : ¬ ((k : Int) < (cl.length : Int)) := by omega
        have h2i : (k : Int) ≤ 200 := by omega
        clear hc
        rename World => wo
        go_wp2_with fail
        refine CC.out.mono ?_
        rintro e w3 ⟨rfl, rfl⟩
        clear CC h1i h2i h1
        go_wp2_with fail
        go_loopw [10, 11, 12] (fun i _ _ wq => ∃ q : Nat, q ≤ n ∧ i = .int .i64 (q : Int) ∧ ∃ (r : RS) (t : Nat) (S : Nat → Prop), t ≤ 200 + q ∧ Hid (r.gens.length = n) ∧ Hid (r.count = q) ∧ Hid (Rol w1.heap.size wq rb t r S) ∧ Hid (Below w.heap.size w wq)) (fun i _ _ _ => n - (intOf i).toNat)
        case atStart => exact ⟨r.count, hcn, rfl, r, t, S, by omega, HL.out, rfl, HR.out, HB.out⟩
        case round =>
          clear HL HR HB hcn hcni htk
          obtain ⟨q, hqn, rfl, r, t, S, htq, HL, HC, HR, HB⟩ := hrel
          by_cases hlt : q < n
          · have hqi : (q : Int) < (n : Int) := by omega
            obtain ⟨f, i, hf⟩ := free_split (r := r) (by
              intro e
              have h1 := HC.out
              have h2 := HL.out
              unfold RS.count at h1
              rw [e] at h1
              simp at h1
              omega)
            have hi : i < n := by have := HR.out.ok.2 i (by rw [hf]; simp); have := HL.out; omega
            have hii : (i : Int) < (n : Int) := by omega
            have hi0 : ¬ ((i : Int) < 0) := by omega
            have hin : ¬ ((n : Int) ≤ (i : Int)) := by omega
            have hcf : Hid ((r.took i).count = q + 1) := by
              have h1 := HC.out
              have h2 : r.free.length = f.length + 1 := by rw [hf]; simp
              have h3 := HR.out.few
              show (r.took i).count = q + 1
              unfold RS.count at h1 ⊢
              rw [RS.took_len, RS.took_count hf]
              omega
            have TS := hid (rol_take HR.out hf (by omega))
            have OW := hid (RS.took_own HR.out.ok hf)
            have hgl := RS.gen_le HR.out (show i < r.gens.length by have := HL.out; omega)
            obtain ⟨g, hg⟩ : ∃ g, g = r.gens.getD i 0 := ⟨_, rfl⟩
            rw [← hg] at TS OW hgl
            have hg64 : (g : Int) ≤ 1000 := by omega
            clear hg hf
            rename World => wp
            go_wp2_with fail
            refine TS.out.mono ?_
            rintro e w4 ⟨rfl, h4, s4⟩
            have B4 := hid (HB.out.trans ((HR.out.below s4).mono hB))
            have H4 := hid (h4.later (bAl w4 (.cells #[.int .i64 (i : Int), .int .i64 ((g : Int) + 1)] 24)))
            have B4' := hid (B4.out.trans ((bAl w4 (.cells #[.int .i64 (i : Int), .int .i64 ((g : Int) + 1)] 24)).mono B4.out.size))
            have AC := hid (rol_alive H4.out (i : Int) ((g : Int) + 1) (I64_small (by omega) (by omega)) (I64_small (by omega) (by omega)))
            rw [OW.out] at AC
            clear h4 s4 TS OW
            go_wp2_with fail
            refine AC.out.mono ?_
            rintro e w5 ⟨rfl, b5⟩
            have H5 := hid (H4.out.later b5)
            have B5 := hid (B4'.out.trans (b5.mono B4'.out.size))
            clear b5 AC
            go_wp2_with fail
            go_roundw
            case rel => exact ⟨q + 1, by omega, by go_num, r.took i, t + 1, S, by omega, by show _ = _; rw [RS.took_len]; exact HL.out, hcf.out, H5.out, B5.out⟩
            case measure => simp [intOf]; omega
          · have hqi : ¬ ((q : Int) < (n : Int)) := by omega
            have hf : r.free = [] := by
              have h1 := HC.out
              have h2 := HL.out
              have h3 := HR.out.few
              unfold RS.count at h1
              exact List.eq_nil_of_length_eq_zero (by omega)
            have TF := hid (rol_full Ad HR.out (HE.out.later HB.out) hf)
            have AF := hid (fun (j : Nat) (hj : j < n) => RS.all_full hf (k := j) (by have := HL.out; omega))
            have AN : r.all.length = n := by rw [RS.all_len hf]; exact HL.out
            clear hf
            rename World => wp
            go_wp2_with fail
            refine TF.out.mono ?_
            rintro e w4 ⟨bf, rfl, -, -, b4⟩
            have b4' := b4.trans ((bAl w4 (.cells #[.int .i64 0, .int .i64 0] 24)).mono b4.size)
            have H4 := hid (HR.out.later b4')
            have B4 := hid (HB.out.trans (b4'.mono HB.out.size))
            have LC := hid (rol_list H4.out (by omega))
            clear b4 b4' TF
            go_wp2_with fail
            refine LC.out.mono ?_
            rintro e w5 ⟨lv, rfl, hl5, b5⟩
            obtain ⟨la, lc, rfl⟩ := hl5.slice
            have L5 := hid hl5
            have H5 := hid (H4.out.later b5)
            have B5 := hid (B4.out.trans (b5.mono B4.out.size))
            rw [AN] at L5 ⊢
            have HAN := hid AN
            clear b5 LC hl5 AN
            go_wp2_with fail
            go_loopw [16] (fun i wz => ∃ j : Nat, j ≤ n ∧ i = .int .i64 (j : Int) ∧ Hid (Below w5.heap.size w5 wz)) (fun i _ => n - (intOf i).toNat)
            case atStart => exact ⟨0, Nat.zero_le _, rfl, Below.refl _ _⟩
            case round =>
              rename World => wz
              obtain ⟨j, hjn, rfl, HZ⟩ := hrel
              by_cases hjl : j < n
              · have hji : (j : Int) < (n : Int) := by omega
                have L6 := Ents.later L5.out HZ.out
                have L6' : Ents (w4.alloc (.cells #[.int .i64 0, .int .i64 0] 24)).heap.size wz (.slice la r.all.length lc) r.all := by rw [HAN.out]; exact L6
                obtain ⟨g, rfl, -, -⟩ := L6'.some (by rw [HAN.out]; omega)
                obtain ⟨d0, d1⟩ := L6'.cell (AF.out j hjl)
                have hjr : j < r.gens.length := by have := HL.out; omega
                have hgl := RS.gen_le HR.out hjr
                have A1 := RS.alive_at (r := r) hjr
                have hnf : r.free = [] := by
                  have h1 := HC.out
                  have h3 := HR.out.few
                  have h2 := HL.out
                  unfold RS.count at h1
                  exact List.eq_nil_of_length_eq_zero (by omega)
                rw [hnf] at A1
                simp only [List.not_mem_nil, not_false_eq_true, decide_true] at A1
                have A2 := RS.alive_less (r := r) hjr
                simp only at d0 d1
                obtain ⟨gg, hg⟩ : ∃ gg, gg = r.gens.getD j 0 := ⟨_, rfl⟩
                rw [← hg] at d1 hgl A1 A2
                have hg64 : (gg : Int) ≤ 1000 := by omega
                have AC1 := hid (fun W (hb : Below w5.heap.size w5 W) => rol_alive (H5.out.later hb) (j : Int) (gg : Int) (I64_small (by omega) (by omega)) (I64_small (by omega) (by omega)))
                have AC2 := hid (fun W (hb : Below w5.heap.size w5 W) => rol_alive (H5.out.later hb) (j : Int) ((gg : Int) - 1) (I64_small (by omega) (by omega)) (I64_mid (by omega) (by omega)))
                rw [A1] at AC1
                rw [A2] at AC2
                clear hg A1 A2 L6 L6' hnf
                go_wp2_with fail
                refine (AC1.out _ HZ.out).mono ?_
                rintro e w6 ⟨rfl, b6⟩
                have B6 := hid (HZ.out.trans (b6.mono HZ.out.size))
                have d0 := seen b6 (Nat.le_refl _) d0
                have d1 := seen b6 (Nat.le_refl _) d1
                clear b6 AC1
                go_wp2_with fail
                refine (AC2.out _ B6.out).mono ?_
                rintro e w7 ⟨rfl, b7⟩
                have B7 := hid (B6.out.trans (b7.mono B6.out.size))
                clear b7 AC2
                go_wp2_with fail
                go_roundw
                case rel => exact ⟨j + 1, by omega, by go_num, B7.out⟩
                case measure => simp [intOf]; omega
              · have hji : ¬ ((j : Int) < (n : Int)) := by omega
                go_wp2_with fail
                go_ret
                exact ⟨rfl, B5.out.trans (HZ.out.mono B5.out.size)⟩
end Go.Proofs.YtdpoojopipcffaaDoor
