/- ColumnSince: the walk. -/
import Derived.Test.YtpglanlpnapddaaDoorDc
import Derived.Deep.DeepCutAuto
import Derived.Deep.CutRange
import Derived.Deep.LoopGhost
import Derived.Deep.CutBlock
namespace Go.Proofs.YtpglanlpnapddaaDoor
open Go.RowKit Go.Shelf Go.Maps
set_option maxHeartbeats 6400000 in
set_option maxRecDepth 100000 in
theorem since_law (w : World) (Ad : Nat → Addr) (hE : Env3 w Ad) (many since' : Int) (v : Value) (ts : List Int) (hT : NRow w v ts) :
    Calls Tryd.prog 6 #[.int .i64 many, v, .int .i64 since'] w fun e w' => e = .returned (.bool true) ∧ Below w.heap.size w w' := by
  have HT := hid hT
  obtain ⟨a, c, rfl, -⟩ := hT
  obtain ⟨u, n0, hn0, hu, hr⟩ := rem_at many 60 (by decide)
  have hr : u.tmod 60 = (n0 : Int) := hr
  have hni : (n0 : Int) ≤ 59 := by omega
  obtain ⟨u2, f, hf, hu2, hr2⟩ := rem_at since' 62 (by decide)
  have hr2 : u2.tmod 62 = (f : Int) := hr2
  have hfi : (f : Int) ≤ 61 := by omega
  have AW := hid (awake_any w Ad hE)
  have hz := zero62
  have hs := store62
  obtain ⟨n, hn⟩ : ∃ n : Nat, n = n0 + 1 := ⟨_, rfl⟩
  have hnn : Hid ((1 : Int) + (n0 : Int) = (n : Int)) := by show _ = _; omega
  have hn60 : n ≤ 60 := by omega
  have hn1 : 1 ≤ n := by omega
  have hn60i : (n : Int) ≤ 60 := by omega
  clear hn
  clear hE
  go_enter Tryd.func6, Tryd.ntmps6
  go_wp2_with fail
  refine AW.out.mono ?_
  rintro e w1 ⟨rfl, b1⟩
  have B1 := hid b1
  have NC := hid (col_new w1 0 1 (by decide) (by decide) (by decide) (by decide))
  clear AW b1
  go_wp2_with fail
  refine NC.out.mono ?_
  rintro e w2 ⟨rb, S, rfl, h2, b2⟩
  have b12 := B1.out.trans (b2.mono B1.out.size)
  have K2 : Hid (Snc w1.heap.size w rb w2.heap.size [] [] S (w2.alloc (.cells z61 62))) :=
    ⟨h2.later (bAl _ _), lasts_none w2, fun q => by have := (h2.lt _ q).2; omega, b12.size, b12.trans ((bAl _ _).mono b12.size), B1.out.size⟩
  obtain ⟨lb, hlb⟩ : ∃ lb, lb = w2.heap.size := ⟨_, rfl⟩
  have HLB := hid hlb
  rw [← hlb] at K2
  clear NC b2 h2 hu hr b12 hlb
  go_wp2_with fail
  rw [← HLB.out, hnn.out]
  have hu2 := hid hu2
  have hr2 := hid hr2
  go_loopg [11] n (fun gh i wr => ∃ k : Nat, k ≤ n ∧ gh = n - k ∧ i = .int .i64 (k : Int) ∧ ∃ (S : Nat → Prop) (l : List Pt), Hid (l.length = k) ∧ Hid (Snc w1.heap.size w rb lb l l S wr))
  case atStart => exact ⟨0, Nat.zero_le _, rfl, rfl, S, [], rfl, K2.out⟩
  case round =>
    obtain ⟨k, hk, rfl, rfl, S, l, HLL, HK⟩ := hrel
    clear K2 hz hs
    by_cases hlt : k < n
    · have hki : (k : Int) < (n : Int) := by omega
      have PU : Hid (Calls Tryd.prog 11 #[.pointer (some ⟨rb, 0, none⟩), .agg #[.int .i64 0, .int .i64 0, .int .i64 0, .int .i64 0, .int .i64 0, .int .i64 0]] wr fun e W' => e = .returned (.tuple #[.int .i64 (l.length : Int), .nilIface]) ∧ ∃ S', Col w1.heap.size W' rb ⟨0, 1, l ++ [Pt.zero]⟩ S' ∧ St S wr W' ∧ ∀ x, S' x → S x ∨ wr.heap.size ≤ x) := col_push HK.out.col Pt.zero rfl (I64_mid (show (-1000000 : Int) ≤ 0 by decide) (show (0 : Int) ≤ 1000000 by decide)) (by have := HLL.out; show l.length < 1000; omega)
      go_wp2_with fail
      refine PU.out.mono ?_
      rintro e w3 ⟨rfl, S3, h3, s3, hS3⟩
      have K3 := hid ((HK.out.turn s3 h3 hS3).same (m' := l ++ [Pt.zero]) fun x => tick_snoc l Pt.zero rfl x)
      clear PU h3 s3 hS3
      go_wp2_with fail
      go_roundg (n - (k + 1))
      case measure => omega
      case rel => exact ⟨k + 1, by omega, rfl, by go_num, S3, l ++ [Pt.zero], by show (l ++ [Pt.zero]).length = k + 1; rw [List.length_append, HLL.out]; rfl, K3.out⟩
    · obtain rfl : k = n := by omega
      have hki : ¬ ((k : Int) < (k : Int)) := by omega
      rename World => wo
      go_upto_block 2 with fail
      go_cut [12, 13, 14, 15] from 46 to 79 (fun _ _ _ _ wx => ∃ (S : Nat → Prop) (l : List Pt), Hid (l.length = k) ∧ Hid (Snc w1.heap.size w rb lb l l S wx))
      case first =>
        go_wp2_with fail
        go_loopg [12, 13, 14, 15] 60 (fun gh i _ _ _ wq => ∃ j : Nat, j ≤ 60 ∧ gh = 60 - j ∧ i = .int .i64 (j : Int) ∧ ∃ (S : Nat → Prop) (l : List Pt), Hid (l.length = k) ∧ Hid (Snc w1.heap.size w rb lb l l S wq))
        case atStart => exact ⟨0, by omega, rfl, rfl, S, l, HLL.out, HK.out⟩
        case round =>
          clear HK HLL
          rename World => wp
          obtain ⟨j, hj, rfl, rfl, S, l, HLL, HK⟩ := hrel
          by_cases h1 : j < ts.length
          · have h1i : (j : Int) < (ts.length : Int) := by omega
            by_cases h2 : j < 60
            · have h2i : (j : Int) < 60 := by omega
              obtain ⟨x, hx⟩ := at_lt ts j h1
              obtain ⟨b, o, rfl, hcl⟩ : ∃ b o, a = some ⟨b, o, none⟩ ∧ wp.cell? ⟨b, o + j, none⟩ = some (.int .i64 x) := by
                obtain ⟨a', c', hv, hl⟩ := HT.out
                obtain ⟨rfl, rfl⟩ : a = a' ∧ c = c' := by simpa using hv
                rcases hl with h | ⟨b, o, h4, h5⟩
                · rw [h] at h1; simp at h1
                · exact ⟨b, o, h4, seen HK.out.bel (Nat.le_refl _) (h5 j x hx)⟩
              obtain ⟨u', m, hm, hu', hr'⟩ := rem_at x k hn1
              have hmi : (m : Int) < (k : Int) := by omega
              obtain ⟨p, hp⟩ := at_lt l m (by have := HLL.out; omega)
              have ST : Hid (Calls Tryd.prog 13 #[.pointer (some ⟨rb, 0, none⟩), .int .i64 (m : Int), .int .i64 0, .int .i64 (j : Int), .int .i64 ((j : Int) + 1)] wp fun e W' => e = .returned (.tuple #[.agg #[.int .i64 0, .int .i64 p.a, .int .i64 p.b, .int .i64 p.c, .int .i64 p.d, .int .i64 p.t], .nilIface]) ∧ Col w1.heap.size W' rb ⟨0, 1, l.set m (p.put 0 (j : Int) ((j : Int) + 1))⟩ S ∧ St S wp W') := col_set HK.out.col m p hp 0 (show 0 < 1 by decide) (j : Int) ((j : Int) + 1) (I64_mid (by omega) (by omega))
              have TS := hid (fun x : Nat => tick_set l m (p.put 0 (j : Int) ((j : Int) + 1)) (by have := HLL.out; omega) (x : Int))
              clear hx hp
              go_wp2_with fail
              refine ST.out.mono ?_
              rintro e w4 ⟨rfl, h4, s4⟩
              have K4 := hid (HK.out.turn s4 h4 (fun x q => .inl q))
              have hm61 : (m : Int) < 61 := by omega
              have l0 := K4.out.lst.1 m (by omega)
              have f0 := K4.out.lst.2 m
              have hll : lb < w4.heap.size := K4.out.lst.lt
              have hln : ¬ (lb = w4.heap.size) := by omega
              have K5 := hid (K4.out.put (m' := l.set m (p.put 0 (j : Int) ((j : Int) + 1))) m ((j : Int) + 1) (fun x => by
                rw [TS.out x]
                by_cases e : x = m
                · rw [if_pos (by omega), if_pos e]; rfl
                · rw [if_neg (by omega), if_neg e]))
              clear ST h4 s4 hcl hu' hr'
              go_wp2_with fail
              go_roundg (60 - (j + 1))
              case measure => omega
              case rel => exact ⟨j + 1, by omega, rfl, by go_num, S, l.set m (p.put 0 (j : Int) ((j : Int) + 1)), by show (l.set m _).length = k; rw [List.length_set]; exact HLL.out, K5.out.later (bAl _ _)⟩
            · have h2i : ¬ ((j : Int) < 60) := by omega
              go_wp2_with fail
              go_meet
              exact ⟨S, l, HLL.out, HK.out⟩
          · have h1i : ¬ ((j : Int) < (ts.length : Int)) := by omega
            go_wp2_with fail
            go_meet
            exact ⟨S, l, HLL.out, HK.out⟩
      case rest =>
        clear HK HLL
        obtain ⟨S, l, HLL, HK⟩ := hcut
        rename World => wt
        have hu2 := hu2.out
        have hr2 := hr2.out
        have SC := hid (col_since HK.out.col (f : Int))
        rw [show (⟨0, 1, l⟩ : CS).rows = l from rfl, HLL.out] at SC
        go_wp2_with fail
        refine SC.out.mono ?_
        rintro e w5 ⟨lv, rfl, hi, b5⟩
        have K5 := hid (HK.out.later b5)
        obtain ⟨la, lc, rfl⟩ := hi.slice
        have I5 := hid hi
        have SA := hid (since_at l (f : Int))
        have SH := hid (since_hit l (f : Int))
        have SM := hid (since_miss l (f : Int))
        have SL := since_len l (f : Int) k
        obtain ⟨L, hL⟩ : ∃ L, L = since l (f : Int) k := ⟨_, rfl⟩
        rw [← hL] at I5 SL ⊢
        have HLe := hid hL
        have hLi : (L.length : Int) ≤ 60 := by omega
        clear SC hi b5 HK hu2 hr2 hL
        go_wp2_with fail
        go_loopg [18, 19] k (fun gh at' i wz => wz = w5 ∧ ∃ q : Nat, q ≤ k ∧ gh = k - q ∧ i = .int .i64 (q : Int) ∧ ∃ r : Nat, r ≤ q ∧ at' = .int .i64 (r : Int) ∧ Hid ((since l (f : Int) q).length = r))
        case atStart => exact ⟨rfl, 0, Nat.zero_le _, rfl, rfl, 0, Nat.le_refl _, rfl, rfl⟩
        case round =>
          rename World => wz
          obtain ⟨rfl, q, hq, rfl, rfl, r, hrq, rfl, HR⟩ := hrel
          have hri : (r : Int) ≤ 60 := by omega
          by_cases hlt : q < k
          · have hqi : (q : Int) < (k : Int) := by omega
            have hq61 : (q : Int) < 61 := by omega
            have l0 := K5.out.lst.1 q (by omega)
            by_cases htk : tickAt l (q : Int) < (f : Int)
            · have E := hid (SM.out q (by omega))
              generalize tickAt l (q : Int) = tk at *
              go_wp2_with fail
              go_roundg (k - (q + 1))
              case measure => omega
              case rel => exact ⟨rfl, q + 1, by omega, rfl, by go_num, r, by omega, rfl, by show _ = _; rw [E.out]; exact HR.out⟩
            · have E := hid (SH.out q (by omega))
              have A := SA.out q k hlt (by omega)
              rw [HR.out, ← HLe.out] at A
              have hrl : r < L.length := (List.getElem?_eq_some_iff.1 A).1
              have hrli : ¬ ((L.length : Int) ≤ (r : Int)) := by omega
              have hrlj : (r : Int) < (L.length : Int) := by omega
              obtain ⟨g, rfl, -, -⟩ := I5.out.some (by omega)
              have d0 := I5.out.cell A
              clear A
              generalize tickAt l (q : Int) = tk at *
              go_wp2_with fail
              go_roundg (k - (q + 1))
              case measure => omega
              case rel => exact ⟨rfl, q + 1, by omega, rfl, by go_num, r + 1, by omega, by go_num, by show _ = _; rw [E.out, HR.out]⟩
          · obtain rfl : q = k := by omega
            have hqi : ¬ ((q : Int) < (q : Int)) := by omega
            have hLr : L.length = r := by rw [HLe.out]; exact HR.out
            have hLe2 : ((r : Int) == (L.length : Int)) = true := by rw [hLr]; simp
            go_wp2_with fail
            go_ret
            exact ⟨by simp, K5.out.bel⟩
end Go.Proofs.YtpglanlpnapddaaDoor
