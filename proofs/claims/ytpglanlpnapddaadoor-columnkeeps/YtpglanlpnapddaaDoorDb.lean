/- ColumnKeeps: the walk. -/
import Derived.Test.YtpglanlpnapddaaDoorDa
import Derived.Deep.DeepCutAuto
import Derived.Deep.CutRange
import Derived.Deep.LoopGhost
import Derived.Deep.CutBlock
namespace Go.Proofs.YtpglanlpnapddaaDoor
open Go.RowKit Go.Shelf Go.Maps
theorem tK (k : Nat) : I64 (pK k).t := I64_mid (show (-1000000 : Int) ≤ 0 by decide) (show (0 : Int) ≤ 1000000 by decide)
theorem range_snoc_map (i : Nat) : (List.range i).map pK ++ [pK i] = (List.range (i + 1)).map pK := by simp [List.range_succ]
theorem mem_snoc (i x : Nat) : decide (x ∈ List.range (i + 1)) = if x = i then true else decide (x ∈ List.range i) := by
  by_cases e : x = i
  · subst e; simp
  · rw [if_neg e]
    simp
    omega
theorem mem_took {l : List Nat} {n y last : Nat} (h : l.Nodup) (hn : l[n]? = some y) (hl : l[l.length - 1]? = some last) (x : Nat) : decide (x ∈ took l n last) = if x = y then false else decide (x ∈ l) := by
  have := (took_nodup h hn hl).2 x
  by_cases e : x = y
  · subst e; simp [this]
  · simp [this, e]
theorem mem_drop {l : List Nat} {k y : Nat} (h : l.Nodup) (hk : l[k]? = some y) (x : Nat) : decide (x ∈ l.drop (k + 1)) = if x = y then false else decide (x ∈ l.drop k) := by
  obtain ⟨hl, rfl⟩ := List.getElem?_eq_some_iff.1 hk
  have e := List.drop_eq_getElem_cons hl
  have hd : (l.drop k).Nodup := h.sublist (List.drop_sublist _ _)
  rw [e] at hd
  have h2 := List.nodup_cons.1 hd
  by_cases ex : x = l[k]
  · subst ex; simp [h2.1]
  · rw [if_neg ex]
    have : x ∈ l.drop k ↔ x ∈ l.drop (k + 1) := by
      constructor
      · intro h; rw [e] at h; exact (List.mem_cons.1 h).resolve_left ex
      · intro h; rw [e]; exact List.mem_cons_of_mem _ h
    simp [this]
theorem put6_bel {B : Nat} {w W : World} {b : Nat} {cm : Int} {p : Pt} (h : Below B w W) (hb : B ≤ b) : Below B w (put6 W b cm p) := by
  unfold put6
  exact (((((h.setCell hb _).setCell hb _).setCell hb _).setCell hb _).setCell hb _).setCell hb _
theorem Kep.beside {B : Nat} {w wr w' : World} {rb lb pb : Nat} {l m : List Nat} {S : Nat → Prop} (h : Kep B w rb lb l m S wr) (hs : St (fun k => k = pb) wr w') (h1 : pb ≠ lb) (h2 : ¬ S pb) (h3 : w.heap.size ≤ pb) : Kep B w rb lb l m S w' :=
  ⟨h.col.kept hs fun k hk e => h2 (e ▸ hk), h.left.kept (hs.block lb h.left.lt fun e => h1 e.symm), h.nl, h.lo, h.bel.trans (hs.below (fun k hk => by omega) h.bel.size), h.base⟩
set_option maxHeartbeats 6400000 in
set_option maxRecDepth 100000 in
theorem keeps_law (w : World) (Ad : Nat → Addr) (hE : Env3 w Ad) (many : Int) (v : Value) (ts : List Int) (hT : NRow w v ts) :
    Calls Tryd.prog 4 #[.int .i64 many, v] w fun e w' => e = .returned (.bool true) ∧ Below w.heap.size w w' := by
  have HT := hid hT
  obtain ⟨a, c, rfl, -⟩ := hT
  obtain ⟨u, n, hn, hu, hr⟩ := rem_at many 101 (by decide)
  have hr : u.tmod 101 = (n : Int) := hr
  have hni : (n : Int) ≤ 100 := by omega
  have AW := hid (awake_any w Ad hE)
  have hz := zero59
  have hs := store59
  clear hE
  go_enter Tryd.func4, Tryd.ntmps4
  go_wp2_with fail
  refine AW.out.mono ?_
  rintro e w1 ⟨rfl, b1⟩
  have B1 := hid b1
  have NC := hid (col_new w1 5 1 (by decide) (by decide) (by decide) (by decide))
  clear AW b1
  go_wp2_with fail
  refine NC.out.mono ?_
  rintro e w2 ⟨rb, S, rfl, h2, b2⟩
  have b12 := B1.out.trans (b2.mono B1.out.size)
  have K2 : Hid (Kep w1.heap.size w rb w2.heap.size [] [] S (w2.alloc (.cells z101 59))) :=
    ⟨h2.later (bAl _ _), left_none w2, fun q => by have := (h2.lt _ q).2; omega, b12.size, b12.trans ((bAl _ _).mono b12.size), B1.out.size⟩
  obtain ⟨lb, hlb⟩ : ∃ lb, lb = w2.heap.size := ⟨_, rfl⟩
  have HLB := hid hlb
  rw [← hlb] at K2
  clear NC b2 h2 hu hr b12 hlb
  go_wp2_with fail
  rw [← HLB.out]
  go_loopg [9, 10, 11] n (fun gh i _ _ wr => ∃ k : Nat, k ≤ n ∧ gh = n - k ∧ i = .int .i64 (k : Int) ∧ ∃ S, Hid (Kep w1.heap.size w rb lb (List.range k) (List.range k) S wr))
  case atStart => exact ⟨0, Nat.zero_le _, rfl, rfl, S, K2.out⟩
  case round =>
    obtain ⟨k, hk, rfl, rfl, S, HK⟩ := hrel
    clear K2 hz hs
    by_cases hlt : k < n
    · have hki : (k : Int) < (n : Int) := by omega
      have PU : Hid (Calls Tryd.prog 11 #[.pointer (some ⟨rb, 0, none⟩), .agg #[.int .i64 5, .int .i64 (k : Int), .int .i64 0, .int .i64 0, .int .i64 0, .int .i64 0]] wr fun e W' => e = .returned (.tuple #[.int .i64 (((List.range k).map pK).length : Int), .nilIface]) ∧ ∃ S', Col w1.heap.size W' rb ⟨5, 1, (List.range k).map pK ++ [pK k]⟩ S' ∧ St S wr W' ∧ ∀ x, S' x → S x ∨ wr.heap.size ≤ x) := col_push HK.out.col (pK k) rfl (tK k) (by simp; omega)
      rw [range_snoc_map, show (((List.range k).map pK).length : Int) = (k : Int) by simp] at PU
      go_wp2_with fail
      refine PU.out.mono ?_
      rintro e w3 ⟨rfl, S3, h3, s3, hS3⟩
      have K3 := hid (HK.out.turn s3 h3 hS3)
      have l0 := K3.out.left.1 k (by omega)
      have f0 := K3.out.left.2 k
      clear PU h3 s3 hS3
      go_wp2_with fail
      go_roundg (n - (k + 1))
      case measure => omega
      case rel => exact ⟨k + 1, by omega, rfl, by go_num, S3, K3.out.put k true (mem_snoc k)⟩
    · obtain rfl : k = n := by omega
      have hki : ¬ ((k : Int) < (k : Int)) := by omega
      rename World => wo
      go_upto_block 2 with fail
      go_cut [12, 13, 14] from 58 to 114 (fun _ _ _ wx => ∃ (S : Nat → Prop) (l : List Nat), Hid (l.Nodup) ∧ Hid (∀ x ∈ l, x < k) ∧ Hid (l.length ≤ 100) ∧ Hid (Kep w1.heap.size w rb lb l l S wx))
      case first =>
        go_wp2_with fail
        go_loopg [12, 13, 14] 100 (fun gh i _ _ wq => ∃ j : Nat, j ≤ 100 ∧ gh = 100 - j ∧ i = .int .i64 (j : Int) ∧ ∃ (S : Nat → Prop) (l : List Nat), Hid (l.Nodup) ∧ Hid (∀ x ∈ l, x < k) ∧ Hid (l.length ≤ 100) ∧ Hid (Kep w1.heap.size w rb lb l l S wq))
        case atStart => exact ⟨0, by omega, rfl, rfl, S, List.range k, List.nodup_range, fun x hx => by simpa using hx, by show (List.range k).length ≤ 100; simp; omega, HK.out⟩
        case round =>
          clear HK
          rename World => wp
          obtain ⟨j, hj, rfl, rfl, S, l, HN, HX, HL, HK⟩ := hrel
          have LN := hid (col_len HK.out.col)
          rw [show (((l.map pK).length : Nat) : Int) = (l.length : Int) by simp] at LN
          by_cases h1 : j < ts.length
          · have h1i : (j : Int) < (ts.length : Int) := by omega
            by_cases h2 : j < 100
            · have h2i : (j : Int) < 100 := by omega
              by_cases h3 : 0 < l.length
              · have h3i : (0 : Int) < (l.length : Int) := by omega
                obtain ⟨x, hx⟩ := at_lt ts j h1
                obtain ⟨b, o, rfl, hcl⟩ : ∃ b o, a = some ⟨b, o, none⟩ ∧ ∀ W', Below w.heap.size w W' → W'.cell? ⟨b, o + j, none⟩ = some (.int .i64 x) := by
                  obtain ⟨a', c', hv, hl⟩ := HT.out
                  obtain ⟨rfl, rfl⟩ : a = a' ∧ c = c' := by simpa using hv
                  rcases hl with h | ⟨b, o, h4, h5⟩
                  · rw [h] at h1; simp at h1
                  · exact ⟨b, o, h4, fun W' hb => seen hb (Nat.le_refl _) (h5 j x hx)⟩
                have HCL := hid hcl
                obtain ⟨u', m, hm, hu', hr'⟩ := rem_at x l.length h3
                obtain ⟨y, hy⟩ := at_lt l m hm
                obtain ⟨last, hla⟩ := at_lt l (l.length - 1) (by omega)
                have TG : Hid (∀ W', Below wp.heap.size wp W' → Calls Tryd.prog 17 #[.pointer (some ⟨rb, 0, none⟩), .int .i64 (m : Int)] W' fun e W'' => e = .returned (.tuple #[.agg #[.int .i64 5, .int .i64 (y : Int), .int .i64 0, .int .i64 0, .int .i64 0, .int .i64 0], .nilIface]) ∧ Hid (Kep w1.heap.size w rb lb (took l m last) l S W'') ∧ Hid (∀ o, W'.heap[wp.heap.size]? = some o → W''.heap[wp.heap.size]? = some o)) := by
                  intro W' hb
                  have k := HK.out.later hb
                  have := col_take k.col m (pK y) (by simp [hy]) (pK last) (by simp [hla])
                  rw [took_rows _ l rfl] at this
                  refine this.mono ?_
                  rintro e w4 ⟨rfl, h4, s4⟩
                  exact ⟨rfl, k.turn s4 h4 (fun x q => .inl q), fun o ho => s4.at ho fun q => by have := (HK.out.col.lt _ q).2; omega⟩
                have TA := hid (TG.out wp.drew (Below.refl _ _).drew)
                have TB : Hid (Calls Tryd.prog 17 #[.pointer (some ⟨rb, 0, none⟩), .int .i64 (m : Int)] (wp.alloc (.cells #[.int .i64 0, .int .i64 0, .int .i64 0, .int .i64 0, .int .i64 0, .int .i64 0] 34)).drew fun e W'' => e = .returned (.tuple #[.agg #[.int .i64 5, .int .i64 (y : Int), .int .i64 0, .int .i64 0, .int .i64 0, .int .i64 0], .nilIface]) ∧ Hid (Kep w1.heap.size w rb lb (took l m last) l S W'') ∧ Hid (W''.heap[wp.heap.size]? = some (.cells (Pt.zero.arr 0) 34 (0, 0)))) :=
                  (TG.out _ ((Below.refl _ _).alloc (Nat.le_refl _) _).drew).mono fun e W'' ⟨h1, h2, h3⟩ => ⟨h1, h2, h3.out _ (heap_alloc_new wp _)⟩
                have NSP : Hid (¬ S wp.heap.size) := fun q => by have := (HK.out.col.lt _ q).2; omega
                clear TG
                have LD : Hid (∀ W', Below wp.heap.size wp W' → Calls Tryd.prog 20 #[.pointer (some ⟨rb, 0, none⟩)] W' fun e W'' => e = .returned (.int .i64 (l.length : Int)) ∧ W'' = W') := by
                  intro W' hb
                  have := col_len (HK.out.later hb).col
                  rw [show (((l.map pK).length : Nat) : Int) = (l.length : Int) by simp] at this
                  exact this
                have hwp : w.heap.size ≤ wp.heap.size := HK.out.bel.size
                have hlp : lb < wp.heap.size := HK.out.left.lt
                have BK := hid HK.out.bel
                have hul : IntKind.u64.wrap (l.length : Int) = (l.length : Int) := uwrap_mid (by omega) (by have := HL.out; omega)
                have hmi : IntKind.i64.wrap (m : Int) = (m : Int) := wrap_mid (by omega) (by have := HL.out; omega)
                have h3n : ¬ (l = []) := fun e => by rw [e] at h3; simp at h3
                have hum : IntKind.u64.wrap (m : Int) = (m : Int) := uwrap_mid (by omega) (by have := HL.out; omega)
                have hyl : y ∈ l := List.mem_of_getElem? hy
                have hyk : y < k := HX.out y hyl
                have HYL := hid hyl
                have hky : ¬ ((k : Int) ≤ (y : Int)) := by omega
                have hy0 : ¬ ((y : Int) < 0) := by omega
                clear hyl
                have TN := hid (took_nodup HN.out hy hla)
                have MT := hid (mem_took HN.out hy hla)
                clear hx hcl hy hla
                go_wp2_with fail
                refine LN.out.mono ?_
                rintro e w3 ⟨rfl, rfl⟩
                go_wp2_with fail
                go_cut [13, 14] from 58 to 114 (fun s13 s14 wx => ∃ pb, s13 = .pointer (some ⟨pb, 0, none⟩) ∧ s14 = .nilIface ∧ pb ≠ lb ∧ Hid (wx.heap[pb]? = some (.cells ((pK y).arr 5) 34 (0, 0))) ∧ Hid (Kep w1.heap.size w rb lb (took l m last) l S wx))
                case first =>
                  go_region_held3 (fun W' => W'.cell? ⟨b, o + j, none⟩ = some (.int .i64 x)) (first | ((conv in (World.setCell _ _ _) => skip); exact HCL.out _ (put6_bel (b := w3.heap.size) (cm := 5) (p := pK y) K4.out.bel hwp)) | ((conv in (World.alloc _ _) => skip); first | exact HCL.out _ (K4.out.later (bAl _ _)).bel | exact HCL.out _ (BK.out.alloc hwp _).drew) | exact HCL.out _ K4.out.bel | exact HCL.out _ BK.out.drew)
                    (first
                      | (go_at_call 20; refine (LD.out _ (by first | ((conv in (World.alloc _ _) => skip); exact ((Below.refl _ _).alloc (Nat.le_refl _) _).drew) | exact (Below.refl _ _).drew)).mono ?_; rintro e w5 ⟨rfl, rfl⟩)
                      | (go_at_call 17; (conv in (World.alloc _ _) => skip); refine TB.out.mono ?_; rintro e w4 ⟨rfl, K4, HZ4⟩; obtain ⟨x0, x1, x2, x3, x4, x5, f0, f1, f2, f3, f4, f5⟩ := lies HZ4.out)
                      | (go_at_call 17; refine TA.out.mono ?_; rintro e w4 ⟨rfl, K4, -⟩))
                  all_goals
                    go_wp2_with fail
                    go_meet
                    first
                      | ((conv in (World.setCell _ _ _) => skip)
                         have PB := put6_blk HZ4.out rfl 5 (pK y)
                         have PK := K4.out.beside (put6_st w4 w3.heap.size 5 (pK y)) (by omega) NSP.out hwp
                         unfold put6 at PB PK
                         exact ⟨w3.heap.size, rfl, rfl, by omega, PB, PK⟩)
                      | exact ⟨w4.heap.size, rfl, rfl, by have := K4.out.left.lt; omega, heap_alloc_new w4 _, K4.out.later (bAl _ _)⟩
                case rest =>
                  obtain ⟨pb, rfl, rfl, hpl, HP, K5⟩ := hcut
                  have d1 := (lies HP.out).c1
                  simp only [pK] at d1
                  have l0 := K5.out.left.1 y (by omega)
                  rw [decide_eq_true HYL.out] at l0
                  have g0 := K5.out.left.2 y
                  have hyi : (y : Int) < 101 := by omega
                  clear LN TA TB LD
                  go_wp2_with fail
                  go_roundg (100 - (j + 1))
                  case measure => omega
                  case rel => exact ⟨j + 1, by omega, rfl, by go_num, S, took l m last, TN.out.1, fun x hx => HX.out x ((TN.out.2 x).1 hx).1, by have := HL.out; show (took l m last).length ≤ 100; simp [took]; omega, K5.out.put y false MT.out⟩
              · have h3i : ¬ ((0 : Int) < (l.length : Int)) := by omega
                go_wp2_with fail
                refine LN.out.mono ?_
                rintro e w3 ⟨rfl, rfl⟩
                go_wp2_with fail
                go_meet
                exact ⟨S, l, HN.out, HX.out, HL.out, HK.out⟩
            · have h2i : ¬ ((j : Int) < 100) := by omega
              go_wp2_with fail
              go_meet
              exact ⟨S, l, HN.out, HX.out, HL.out, HK.out⟩
          · have h1i : ¬ ((j : Int) < (ts.length : Int)) := by omega
            go_wp2_with fail
            go_meet
            exact ⟨S, l, HN.out, HX.out, HL.out, HK.out⟩
      case rest =>
        clear HK
        obtain ⟨S, l, HN, HX, HL, HK⟩ := hcut
        rename World => wt
        have hli : (l.length : Int) ≤ 100 := by have := HL.out; omega
        go_wp2_with fail
        go_loopg [15, 16, 17] l.length (fun gh i _ _ wq => ∃ q : Nat, q ≤ l.length ∧ gh = l.length - q ∧ i = .int .i64 (q : Int) ∧ Hid (Kep w1.heap.size w rb lb l (l.drop q) S wq))
        case atStart => exact ⟨0, Nat.zero_le _, rfl, rfl, HK.out⟩
        case round =>
          clear HK
          rename World => wq
          obtain ⟨q, hq, rfl, rfl, HK⟩ := hrel
          have LN := hid (col_len HK.out.col)
          rw [show (((l.map pK).length : Nat) : Int) = (l.length : Int) by simp] at LN
          by_cases hlt : q < l.length
          · have hqi : (q : Int) < (l.length : Int) := by omega
            obtain ⟨y, hy⟩ := at_lt l q hlt
            have hyl : y ∈ l := List.mem_of_getElem? hy
            have hyk : y < k := HX.out y hyl
            have hyd : y ∈ l.drop q := by
              obtain ⟨h1, rfl⟩ := List.getElem?_eq_some_iff.1 hy
              rw [List.drop_eq_getElem_cons h1]; exact List.mem_cons_self
            have MD := hid (mem_drop HN.out hy)
            have HYD := hid hyd
            have RR : Hid (Calls Tryd.prog 24 #[.pointer (some ⟨rb, 0, none⟩), .int .i64 (q : Int)] wq fun e W' => e = .returned (.tuple #[.agg #[.int .i64 5, .int .i64 (y : Int), .int .i64 0, .int .i64 0, .int .i64 0, .int .i64 0], .nilIface]) ∧ Below wq.heap.size wq W') := col_row HK.out.col q (pK y) (by simp [hy])
            have hky : (y : Int) < 101 := by omega
            clear hy hyl hyd
            go_wp2_with fail
            refine LN.out.mono ?_
            rintro e w3 ⟨rfl, rfl⟩
            go_wp2_with fail
            refine RR.out.mono ?_
            rintro e w4 ⟨rfl, b4⟩

            have K4 := hid (HK.out.later b4)

            have l0 := K4.out.left.1 y (by omega)
            rw [decide_eq_true HYD.out] at l0
            have f0 := K4.out.left.2 y
            have hll : lb < w4.heap.size := K4.out.left.lt
            have hln : ¬ (lb = w4.heap.size) := by omega
            clear b4 RR LN
            go_wp2_with fail
            go_roundg (l.length - (q + 1))
            case measure => omega
            case rel => exact ⟨q + 1, by omega, rfl, by go_num, (K4.out.put y false MD.out).later (bAl _ _)⟩
          · obtain rfl : q = l.length := by omega
            have hqi : ¬ ((l.length : Int) < (l.length : Int)) := by omega
            have K0 : Hid (Kep w1.heap.size w rb lb l [] S wq) := by
              have := HK.out
              rw [List.drop_length] at this
              exact this
            go_wp2_with fail
            refine LN.out.mono ?_
            rintro e w3 ⟨rfl, rfl⟩
            clear LN HK
            go_wp2_with fail
            go_loopg [18] k (fun gh i wz => ∃ q : Nat, q ≤ k ∧ gh = k - q ∧ i = .int .i64 (q : Int) ∧ wz = w3)
            case atStart => exact ⟨0, Nat.zero_le _, rfl, rfl, rfl⟩
            case round =>
              obtain ⟨q, hq, rfl, rfl, rfl⟩ := hrel
              by_cases hlt : q < k
              · have hqi : (q : Int) < (k : Int) := by omega
                have l0 := K0.out.left.1 q (by omega)
                simp only [List.not_mem_nil, decide_false] at l0
                have hq1 : (q : Int) < 101 := by omega
                go_wp2_with fail
                go_roundg (k - (q + 1))
                case measure => omega
                case rel => exact ⟨q + 1, by omega, rfl, by go_num, rfl⟩
              · have hqi : ¬ ((q : Int) < (k : Int)) := by omega
                go_wp2_with fail
                go_ret
                exact ⟨rfl, K0.out.bel⟩
end Go.Proofs.YtpglanlpnapddaaDoor
