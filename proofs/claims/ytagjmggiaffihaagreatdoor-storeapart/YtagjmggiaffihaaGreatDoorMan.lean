/- Texts in one. -/
import Derived.Lib.BitFns
import Derived.BigQuiet
import Derived.Test.YtagjmggiaffihaaGreatDoorCards
import Derived.Test.YtagjmggiaffihaaGreatDoorTie
import Derived.ProofKit
import Derived.LaidMore
import Derived.OpenShut
import Derived.Deep.Grids
import Derived.SevenTiedAt
import Derived.ChangeMaps5
import Derived.Test.YtagjmggiaffihaaGreatDoorMam
namespace Go.Proofs.YtagjmggiaffihaaGreatDoor.So
open Go.RowKit Go.Shelf Go.Maps
open Go.Proofs.YtagjmggiaffihaaGreatDoor.Co (I64 I64_mid)
open Go.Proofs.YtagjmggiaffihaaGreatDoor.Rs (SD mskP Prt okL okW fitP)
theorem lawL_mem (m : Nat) (v : Int) (k : Nat) (p : Prt) : p ∈ lawL m v k ↔ ∃ j, j < k ∧ m.testBit j = true ∧ p = lawP v j := by
  induction k with
  | zero => simp [lawL]
  | succ k ih =>
    unfold lawL
    split
    · rename_i h
      rw [List.mem_append, ih]
      constructor
      · rintro (⟨j, h1, h2, h3⟩ | hp)
        · exact ⟨j, by omega, h2, h3⟩
        · exact ⟨k, by omega, h, by simpa using hp⟩
      · rintro ⟨j, h1, h2, h3⟩
        by_cases e : j = k
        · subst e; exact .inr (by simpa using h3)
        · exact .inl ⟨j, by omega, h2, h3⟩
    · rename_i h
      rw [ih]
      constructor
      · rintro ⟨j, h1, h2, h3⟩; exact ⟨j, by omega, h2, h3⟩
      · rintro ⟨j, h1, h2, h3⟩
        by_cases e : j = k
        · subst e; exact absurd h2 h
        · exact ⟨j, by omega, h2, h3⟩
theorem lawL_sorted (m : Nat) (v : Int) (k : Nat) : (lawL m v k).Pairwise (fun x y => x.c < y.c) := by
  induction k with
  | zero => simp [lawL]
  | succ k ih =>
    unfold lawL
    split
    · refine List.pairwise_append.2 ⟨ih, by simp, fun x hx y hy => ?_⟩
      obtain ⟨j, h1, -, rfl⟩ := (lawL_mem m v k x).1 hx
      simp at hy
      subst hy
      show (j : Int) < (k : Int)
      omega
    · exact ih
def ones : List Nat := [1, 1, 1, 1, 1, 1, 1, 1]
theorem law_fit (v : Int) (j : Nat) (hj : j < 8) : fitP ones (lawP v j) = true := by
  have hw : ones[j]? = some 1 := by
    have : j = 0 ∨ j = 1 ∨ j = 2 ∨ j = 3 ∨ j = 4 ∨ j = 5 ∨ j = 6 ∨ j = 7 := by omega
    rcases this with rfl | rfl | rfl | rfl | rfl | rfl | rfl | rfl <;> rfl
  rw [Rs.fit_in (p := lawP v j) rfl hw]
  rfl
theorem law_chk (m : Nat) (v : Int) : chkL ones (lawL m v 8) = 0 := by
  unfold chkL
  rw [if_pos, if_pos]
  · exact (lawL_sorted m v 8).imp fun h => by omega
  · rw [List.all_eq_true]
    intro p hp
    obtain ⟨j, h1, -, rfl⟩ := (lawL_mem m v 8 p).1 hp
    exact law_fit v j h1
theorem law_tick (m : Nat) (v : Int) : ∀ p ∈ lawL m v 8, I64 p.t := fun p hp => by
  obtain ⟨j, h1, -, rfl⟩ := (lawL_mem m v 8 p).1 hp
  show I64 (j : Int)
  exact I64_mid (by omega) (by omega)
theorem law_sort (m : Nat) (v : Int) : sortP (lawL m v 8) = lawL m v 8 := by
  have ok := sort_ok (law_chk m v) (law_tick m v)
  have pm := sort_perm (lawL m v 8)
  refine ext_key (fun p => p.c.toNat) ?_ ?_ fun x => pm.mem_iff.symm
  · refine List.Pairwise.imp_of_mem (fun {x y} hx hy h => ?_) ok.1.1
    have := (ok.1.2 x hx).1
    have := (ok.1.2 y hy).1
    omega
  · refine List.Pairwise.imp_of_mem (fun {x y} hx hy h => ?_) (lawL_sorted m v 8)
    obtain ⟨j, -, -, rfl⟩ := (lawL_mem m v 8 x).1 hx
    obtain ⟨i, -, -, rfl⟩ := (lawL_mem m v 8 y).1 hy
    change (j : Int) < (i : Int) at h
    show (j : Int).toNat < (i : Int).toNat
    omega
theorem law_msk (m : Nat) (v : Int) : mskP (lawL m v 8) = m % 256 := by
  refine eq_bits fun i => Bool.eq_iff_iff.2 ?_
  rw [msk_mem fun x hx => by obtain ⟨j, -, -, rfl⟩ := (lawL_mem m v 8 x).1 hx; exact Int.natCast_nonneg j, show (256 : Nat) = 2 ^ 8 from rfl, Nat.testBit_mod_two_pow]
  constructor
  · rintro ⟨x, hx, e⟩
    obtain ⟨j, h1, h2, rfl⟩ := (lawL_mem m v 8 x).1 hx
    change (j : Int) = (i : Int) at e
    obtain rfl : j = i := by omega
    simp [h1, h2]
  · intro h
    simp at h
    exact ⟨lawP v i, (lawL_mem m v 8 _).2 ⟨i, h.1, h.2, rfl⟩, rfl⟩
end Go.Proofs.YtagjmggiaffihaaGreatDoor.So
namespace Go.Proofs.YtagjmggiaffihaaGreatDoor.So
open Go.RowKit Go.Shelf Go.Maps
open Go.Proofs.YtagjmggiaffihaaGreatDoor.Co (I64 I64_mid Pt)
open Go.Proofs.YtagjmggiaffihaaGreatDoor.At (St bAl cell_blk blk_seen blk_free Err)
open Go.Proofs.YtagjmggiaffihaaGreatDoor.Rs (SD mskP Prt Prts PRow okL fitP remP insP)
section
variable {W1 w w' : World} {sb : Nat} {s : SD} {t : Nat} {fr : List (Nat × Obj)} {Ad : Nat → Addr}
/-- A fresh row of parts is handed to Spawn. -/
theorem aw_spawn2 (h : Aw W1 sb s t fr w) (hE : Env8 W1 Ad) (ht : t ≤ 900) {v : Value} {l : List Prt} (hv : Prts w.heap.size w' v l) (hb : Below w.heap.size w w') (hl : l.length ≤ 90) (hc : chkL s.ws l = 0) (hti : ∀ p ∈ l, I64 p.t) {f : List Nat} {i g : Nat} (hf : s.r.free = f ++ [i]) (hg : s.r.gens.getD i 0 + 1 = g) :
    Calls Tryz.prog 16 #[.pointer (some ⟨sb, 0, none⟩), v] w' fun e w2 => e = .returned (.tuple #[.agg #[.int .i64 (i : Int), .int .i64 (g : Int)], .nilIface]) ∧ Aw W1 sb (entered { s with r := s.r.took i } i (sortP l)) (t + 1) fr w2 := by
  obtain ⟨c, e1, e2, e3⟩ := h.ex
  have h' := h.later hb
  refine (spawn_ok Ad (e1.later hb) (h'.env hE) (prow_out hv fun k hk q => ?_) hl hc hti hf (by omega)).mono ?_
  · have := (e1.lt k q).2
    have := (hv.lt k hk).1
    omega
  · rintro e w2 ⟨rfl, c', q1, q2, q3⟩
    exact ⟨by rw [hg], Aw.go (e1.later hb) (fun x hx => (e3 x hx).later hb) h'.bel q1 (by omega) q3⟩
theorem aw_full (h : Aw W1 sb s t fr w) (hE : Env8 W1 Ad) {v : Value} {l : List Prt} (hv : PRow w v l) (hl : l.length ≤ 90) (hc : chkL s.ws l = 0) (hf : s.r.free = []) :
    Calls Tryz.prog 16 #[.pointer (some ⟨sb, 0, none⟩), v] w fun e w2 => ∃ r, e = .returned (.tuple #[.agg #[.int .i64 0, .int .i64 0], r]) ∧ Er Ad w2 r 6 ∧ Aw W1 sb s t fr w2 := by
  obtain ⟨c, e1, e2, e3⟩ := h.ex
  refine (spawn_full Ad e1 (h.env hE) hv hl hc hf).mono ?_
  rintro e w2 ⟨r, rfl, q1, q2⟩
  exact ⟨r, rfl, q1, h.later q2⟩
theorem aw_insert (h : Aw W1 sb s t fr w) (hE : Env8 W1 Ad) {i g : Nat} (ha : al s i g) (p : Prt) (hf : fitP s.ws p = true) (ht : I64 p.t) (hno : ∀ q ∈ s.at i, q.c ≠ p.c) :
    Calls Tryz.prog 21 #[.pointer (some ⟨sb, 0, none⟩), .agg #[.int .i64 (i : Int), .int .i64 (g : Int)], p.val] w fun e w2 => e = .returned .nilIface ∧ Aw W1 sb (entered s i (insP (s.at i) p)) t fr w2 := by
  obtain ⟨c, e1, e2, e3⟩ := h.ex
  obtain ⟨n, j, m, own, y, A⟩ := e1.stands ha (by simp)
  have hr := Rs.fit_range hf
  have h16 := e1.okw.1
  refine (insert_ok Ad e1 (h.env hE) ha A p hf ht (cc := p.c.toNat) (by omega) (by omega) ?_).mono ?_
  · refine Bool.eq_false_iff.2 fun q => ?_
    rw [A.msk] at q
    obtain ⟨x, hx, ex⟩ := (msk_mem (okL_pos A.ok.1) _).1 q
    exact hno x hx (by omega)
  · rintro e w2 ⟨rfl, c', q1, q2, q3⟩
    exact ⟨rfl, Aw.go e1 e3 h.bel q1 (by omega) q3⟩
theorem aw_twice (h : Aw W1 sb s t fr w) (hE : Env8 W1 Ad) {i g : Nat} (ha : al s i g) (p q : Prt) (hf : fitP s.ws p = true) (hq : q ∈ s.at i) (hqc : q.c = p.c) :
    Calls Tryz.prog 21 #[.pointer (some ⟨sb, 0, none⟩), .agg #[.int .i64 (i : Int), .int .i64 (g : Int)], p.val] w fun e w2 => ∃ r, e = .returned r ∧ Er Ad w2 r 9 ∧ Aw W1 sb s t fr w2 := by
  obtain ⟨c, e1, e2, e3⟩ := h.ex
  obtain ⟨n, j, m, own, y, A⟩ := e1.stands ha (by simp)
  have hr := Rs.fit_range hf
  have h16 := e1.okw.1
  refine (insert_twice e1 (h.env hE) ha A p hf (cc := p.c.toNat) (by omega) (by omega) ?_).mono ?_
  · rw [A.msk]
    exact (msk_mem (okL_pos A.ok.1) _).2 ⟨q, hq, by omega⟩
  · rintro e w2 ⟨r, rfl, q1, q2⟩
    exact ⟨r, rfl, q1, h.later q2⟩
theorem aw_parts (h : Aw W1 sb s t fr w) {i g : Nat} (ha : al s i g) : Calls Tryz.prog 42 #[.pointer (some ⟨sb, 0, none⟩), .agg #[.int .i64 (i : Int), .int .i64 (g : Int)]] w fun e w2 => ∃ v, e = .returned (.tuple #[v, .nilIface]) ∧ Prts w.heap.size w2 v (s.at i) ∧ Aw W1 sb s t fr w2 ∧ Below w.heap.size w w2 := by
  obtain ⟨c, e1, e2, e3⟩ := h.ex
  refine (parts_ok e1 ha).mono ?_
  rintro e w2 ⟨v, rfl, q1, q2⟩
  exact ⟨v, rfl, q1, h.later q2, q2⟩
theorem aw_mask (h : Aw W1 sb s t fr w) {i g : Nat} (ha : al s i g) : Calls Tryz.prog 43 #[.pointer (some ⟨sb, 0, none⟩), .agg #[.int .i64 (i : Int), .int .i64 (g : Int)]] w fun e w2 => e = .returned (.tuple #[.int .u32 (mskP (s.at i) : Int), .nilIface]) ∧ Aw W1 sb s t fr w2 := by
  obtain ⟨c, e1, e2, e3⟩ := h.ex
  refine (mask_ok e1 ha).mono ?_
  rintro e w2 ⟨rfl, q2⟩
  exact ⟨rfl, h.later q2⟩
theorem aw_despawn (h : Aw W1 sb s t fr w) {i g : Nat} (ha : al s i g) : Calls Tryz.prog 18 #[.pointer (some ⟨sb, 0, none⟩), .agg #[.int .i64 (i : Int), .int .i64 (g : Int)]] w fun e w2 => ∃ v, e = .returned (.tuple #[v, .nilIface]) ∧ Prts w.heap.size w2 v (s.at i) ∧ Aw W1 sb { s with r := s.r.freed i } t fr w2 := by
  obtain ⟨c, e1, e2, e3⟩ := h.ex
  refine (despawn_ok e1 ha).mono ?_
  rintro e w2 ⟨v, rfl, q1, c', q2, q3, q4, -⟩
  exact ⟨v, rfl, q1, Aw.go e1 e3 h.bel q2 (by omega) q4⟩
end
end Go.Proofs.YtagjmggiaffihaaGreatDoor.So
namespace Go.Proofs.YtagjmggiaffihaaGreatDoor.So
open Go.RowKit Go.Shelf Go.Maps
open Go.Proofs.YtagjmggiaffihaaGreatDoor.Co (I64 I64_mid)
open Go.Proofs.YtagjmggiaffihaaGreatDoor.At (an mtB)
open Go.Proofs.YtagjmggiaffihaaGreatDoor.Ro (RS)
open Go.Proofs.YtagjmggiaffihaaGreatDoor.Rs (SD mskP Prt okL okW fitP)
/-- i of n places are taken, in their order; who stands at k has L k. -/
structure Run (n i : Nat) (L : Nat → List Prt) (s : SD) : Prop where
  ws : s.ws = ones
  n2 : s.p.length = 64
  free : s.r.free = (List.range' i (n - i)).reverse
  len : s.r.gens.length = n
  gen : ∀ k, k < n → s.r.gens[k]? = some (if k < i then 1 else 0)
  row : ∀ k, k < i → s.at k = L k
  le : i ≤ n
  n64 : n ≤ 64
section
variable {n i : Nat} {L : Nat → List Prt} {s : SD}
theorem run_new (L : Nat → List Prt) (hn : n ≤ 64) : Run n 0 L (madeS ones n) where
  ws := rfl
  n2 := by simp [madeS]
  free := by simp [madeS, RS.fresh, List.range_eq_range']
  len := by simp [madeS, RS.fresh]
  gen := fun k hk => by simp [madeS, RS.fresh, hk]
  row := fun k hk => by omega
  le := Nat.zero_le _
  n64 := hn
theorem Run.split (h : Run n i L s) (hi : i < n) : s.r.free = (List.range' (i + 1) (n - (i + 1))).reverse ++ [i] := by
  rw [h.free, show n - i = (n - (i + 1)) + 1 by omega, List.range'_succ, List.reverse_cons]
theorem Run.zero (h : Run n i L s) (hi : i < n) : s.r.gens.getD i 0 + 1 = 1 := by
  rw [List.getD_eq_getElem?_getD, h.gen i hi, if_neg (by omega)]
  rfl
theorem Run.step (h : Run n i L s) (hi : i < n) : Run n (i + 1) L (entered { s with r := s.r.took i } i (L i)) where
  ws := h.ws
  n2 := by
    have := h.n2
    simp [entered, this]
  free := by
    show (s.r.took i).free = _
    unfold RS.took
    rw [h.split hi]
    simp
  len := by
    show (s.r.took i).gens.length = _
    unfold RS.took
    simp [h.len]
  gen := fun k hk => by
    show (s.r.took i).gens[k]? = _
    unfold RS.took
    by_cases e : k = i
    · subst e
      rw [h.zero hi, List.getElem?_set_self (by rw [h.len]; exact hi), if_pos (by omega)]
    · show (s.r.gens.set i _)[k]? = _
      rw [List.getElem?_set_ne (fun q => e q.symm), h.gen k hk]
      congr 1
      by_cases q : k < i
      · rw [if_pos q, if_pos (by omega)]
      · rw [if_neg q, if_neg (by omega)]
  row := fun k hk => by
    have h64 := h.n64
    have hp := h.n2
    by_cases e : k = i
    · subst e
      exact at_entered _ (by show k < s.p.length; omega)
    · rw [at_other _ e]
      exact h.row k (by omega)
  le := hi
  n64 := h.n64
theorem Run.al (h : Run n i L s) {k : Nat} (hk : k < i) : al s k 1 := by
  have := h.le
  rw [al_iff, h.free, h.gen k (by omega), if_pos hk]
  refine ⟨fun q => ?_, rfl⟩
  simp at q
  omega
theorem Run.count (h : Run n i L s) : s.r.count = i := by
  have := h.le
  unfold RS.count
  rw [h.len, h.free]
  simp
  omega
theorem Run.upto (h : Run n i L s) : ∀ k, k ≤ n → s.r.upto k = (List.range (min k i)).map fun j => (j, 1)
  | 0, _ => rfl
  | k + 1, hk => by
    rw [show s.r.upto (k + 1) = (if k ∈ s.r.free then s.r.upto k else s.r.upto k ++ [(k, s.r.gens.getD k 0)]) from rfl, h.upto k (by omega), h.free, List.getD_eq_getElem?_getD, h.gen k (by omega)]
    by_cases q : k < i
    · rw [if_neg (by simp; omega), if_pos q, show min k i = k by omega, show min (k + 1) i = k + 1 by omega, List.range_succ, List.map_append]
      rfl
    · rw [if_pos (by simp; omega), show min k i = i by omega, show min (k + 1) i = i by omega]
theorem Run.all (h : Run n i L s) : s.r.all = (List.range i).map fun j => (j, 1) := by
  have := h.le
  unfold RS.all
  rw [h.len, h.upto n (Nat.le_refl _), Nat.min_eq_right this]
end
/-- Who of the first k matches. -/
def hits (M : Nat → Nat) (a b k : Nat) : List Nat := (List.range k).filter fun j => mtB a b (M j)
theorem hits_succ (M : Nat → Nat) (a b k : Nat) : hits M a b (k + 1) = if mtB a b (M k) = true then hits M a b k ++ [k] else hits M a b k := by
  unfold hits
  rw [List.range_succ, List.filter_append]
  by_cases q : mtB a b (M k) = true
  · rw [if_pos q]; simp [q]
  · rw [if_neg q]; simp [q]
theorem hits_pre (M : Nat → Nat) (a b : Nat) {k : Nat} : ∀ {k' : Nat}, k ≤ k' → hits M a b k <+: hits M a b k'
  | 0, h => by rw [show k = 0 by omega]; exact List.prefix_refl _
  | k' + 1, h => by
    by_cases e : k = k' + 1
    · rw [e]; exact List.prefix_refl _
    · refine (hits_pre M a b (show k ≤ k' by omega)).trans ?_
      rw [hits_succ]
      split
      · exact List.prefix_append _ _
      · exact List.prefix_refl _
theorem hits_hit (M : Nat → Nat) {a b k n : Nat} (hk : k < n) (hm : mtB a b (M k) = true) : (hits M a b n)[(hits M a b k).length]? = some k := by
  obtain ⟨t, ht⟩ := hits_pre M a b (show k + 1 ≤ n by omega)
  rw [hits_succ, if_pos hm] at ht
  rw [← ht]
  simp
theorem hits_len (M : Nat → Nat) (a b k : Nat) : (hits M a b k).length ≤ k := by
  have := List.length_filter_le (fun j => mtB a b (M j)) (List.range k)
  simpa [hits] using this
theorem Run.matched {n i : Nat} {L : Nat → List Prt} {s : SD} (h : Run n i L s) (M : Nat → Nat) (hM : ∀ k, k < i → mskP (L k) = M k) (a b : Nat) : matched s a b = (hits M a b i).map fun j => (j, 1) := by
  unfold So.matched hits
  rw [h.all, List.filter_map]
  congr 1
  refine List.filter_congr fun j hj => ?_
  have hj : j < i := by simpa using hj
  show mtB a b (mskP (s.at j)) = _
  rw [h.row j hj, hM j hj]
end Go.Proofs.YtagjmggiaffihaaGreatDoor.So
namespace Go.Proofs.YtagjmggiaffihaaGreatDoor.So
open Go.RowKit Go.Shelf Go.Maps
open Go.Proofs.YtagjmggiaffihaaGreatDoor.Co (I64 I64_mid Pt lies put6_blk put6_st put6)
open Go.Proofs.YtagjmggiaffihaaGreatDoor.At (St bAl cell_blk blk_seen blk_free Err)
open Go.Proofs.YtagjmggiaffihaaGreatDoor.Ro (RS Ents)
open Go.Proofs.YtagjmggiaffihaaGreatDoor.Rs (SD mskP Prt Prts PRow okL fitP remP insP)
theorem own_fr {B : Nat} {W : World} {ty : TypeId} {sz : Nat} {v : Value} {n : Nat} {l : List Value} (h : W.ownsRow B ty sz v n l) :
    ∃ fr0 : List (Nat × Obj), (∀ x ∈ fr0, W.heap[x.1]? = some x.2 ∧ v.ownBlock = some x.1) ∧ (∀ k, v.ownBlock = some k → ∃ o, (k, o) ∈ fr0) ∧ ∀ w3 : World, (∀ x ∈ fr0, w3.heap[x.1]? = some x.2) → w3.ownsRow B ty sz v n l := by
  rcases h with ⟨h0, h1 | ⟨g, cap, cur, h1, h2, h3, h4⟩⟩
  · exact ⟨[], fun x hx => by simp at hx, fun k hk => by rw [h1.1] at hk; simp [Value.ownBlock] at hk, fun w3 _ => ⟨h0, .inl h1⟩⟩
  · refine ⟨[(g, .cells cur ty (0, 0))], fun x hx => ?_, fun k hk => ⟨.cells cur ty (0, 0), ?_⟩, fun w3 h5 => ⟨h0, .inr ⟨g, cap, cur, h1, h2, h5 _ (List.mem_cons_self ..), h4⟩⟩⟩
    · obtain rfl : x = (g, .cells cur ty (0, 0)) := by simpa using hx
      exact ⟨h3, by rw [h1]; rfl⟩
    · rw [h1] at hk
      obtain rfl : g = k := by simpa [Value.ownBlock] using hk
      exact List.mem_cons_self ..
/-- A store, and a row of entities beside it. -/
def Ar (W1 : World) (sb : Nat) (s : SD) (t : Nat) (v : Value) (l : List (Nat × Nat)) (w : World) : Prop :=
  Ents W1.heap.size w v l ∧ Below W1.heap.size W1 w ∧ ∃ c, Sto none W1.heap.size w sb c s ∧ c.t ≤ t ∧ ∀ k, v.ownBlock = some k → c.f k = (0, 0, 0)
section
variable {W1 w w' : World} {sb : Nat} {s s' : SD} {t : Nat} {fr : List (Nat × Obj)} {Ad : Nat → Addr} {v v' : Value} {l : List (Nat × Nat)}
theorem Ar.open (h : Ar W1 sb s t v l w) : ∃ fr0, Aw W1 sb s t fr0 w ∧ ∀ s' t' w' fr1, (∀ x ∈ fr0, x ∈ fr1) → Aw W1 sb s' t' fr1 w' → Ar W1 sb s' t' v l w' := by
  obtain ⟨h1, h2, c, h3, h4, h5⟩ := h
  obtain ⟨fr0, e1, e2, e3⟩ := own_fr h1
  refine ⟨fr0, ⟨⟨c, h3, h4, fun x hx => ⟨h5 _ (e1 x hx).2, (e1 x hx).1⟩⟩, h2⟩, fun s' t' w' fr1 hs ha => ?_⟩
  obtain ⟨c', q1, q2, q3⟩ := ha.ex
  refine ⟨e3 w' fun x hx => (q3 x (hs x hx)).2, ha.bel, c', q1, q2, fun k hk => ?_⟩
  obtain ⟨o, ho⟩ := e2 k hk
  exact (q3 _ (hs _ ho)).1
theorem Ar.app {l' : List (Nat × Nat)} (h : Ar W1 sb s t v l w) (ho : Ents W1.heap.size w' v' l') (hst : Ro.St (fun x => v.ownBlock = some x) w w') (hat : v'.ownBlock = v.ownBlock ∨ ∃ x, v'.ownBlock = some x ∧ w.heap.size ≤ x) : Ar W1 sb s t v' l' w' := by
  obtain ⟨h1, h2, c, h3, h4, h5⟩ := h
  have hst' : St (fun x => v.ownBlock = some x) w w' := ⟨hst.os, hst.tape, hst.output, hst.size, hst.block⟩
  refine ⟨ho, h2.trans ((hst'.below (B := W1.heap.size) (fun k hk => (World.ownsRow.lt h1 k hk).1) h2.size).mono (Nat.le_refl _)), c, h3.keep hst' fun k hk q => hk (h5 k q), h4, fun k hk => ?_⟩
  rcases hat with e | ⟨x, e1, e2⟩
  · exact h5 k (by rw [← e]; exact hk)
  · obtain rfl : x = k := by rw [e1] at hk; simpa using hk
    exact Classical.byContradiction fun q => by have := (h3.lt x q).2; omega
theorem Ar.new {k : Nat} (h : Aw W1 sb s t fr w) (hk : (k, .cells #[] 43 (0, 0)) ∈ fr) (hB : W1.heap.size ≤ k) : Ar W1 sb s t (.slice (some ⟨k, 0, none⟩) 0 0) [] w := by
  obtain ⟨c, q1, q2, q3⟩ := h.ex
  refine ⟨⟨rfl, .inr ⟨k, 0, #[], rfl, hB, h.at hk, Nat.le_refl _, by decide, rfl, rfl⟩⟩, h.bel, c, q1, q2, fun k' hk' => ?_⟩
  obtain rfl : k = k' := by simpa [Value.ownBlock] using hk'
  exact (q3 _ hk).1
theorem Ar.later (h : Ar W1 sb s t v l w) (hb : Below w.heap.size w w') : Ar W1 sb s t v l w' := by
  obtain ⟨fr0, h1, h2⟩ := h.open
  exact h2 _ _ _ _ (fun _ hx => hx) (h1.later hb)
/-- The sort of an error is told. -/
theorem is_er (hE : Env8 w Ad) {p k d : Nat} (h : Err Ad w v p d) (hk : k ∈ eight) (hp : p ∈ eight := by decide) : Calls Tryz.prog 13 #[v, .iface 278 (.pointer (some (Ad k)))] w fun e w' => e = .returned (.bool (decide (p = k))) ∧ Below w.heap.size w w' := by
  obtain ⟨ws, h⟩ := h
  obtain ⟨t, q, rfl, -⟩ := h.1.shape
  refine is_by Ad k t q _ w ((eis_gen Ad w.heap.size k w ws _ p (hE.sen p hp (eight_le p hp).2) (hE.sen k hk (eight_le k hk).2) (hE.same hp hk) h.1).mono ?_)
  rintro e w' ⟨rfl, rfl⟩
  exact ⟨rfl, Below.refl _ _⟩
theorem is_er2 (hE : Env8 w Ad) {p k : Nat} (h : Er Ad w v p) (h0 : p ≠ 0) (hk : k ∈ eight) (hp : p ∈ eight := by decide) : Calls Tryz.prog 13 #[v, .iface 278 (.pointer (some (Ad k)))] w fun e w' => e = .returned (.bool (decide (p = k))) ∧ Below w.heap.size w w' := by
  rcases h with ⟨e, -⟩ | ⟨-, tt, qq, rfl, d, hd⟩
  · exact absurd e h0
  · exact is_er hE hd hk hp
/-- An error of one word, in a block. -/
def eBlk (Ad : Nat → Addr) (k : Nat) (str : ByteArray) : Obj := .cells #[.string str, .iface 278 (.pointer (some (Ad k)))] 210 (0, 0)
theorem err_blk {b k : Nat} {str : ByteArray} (h : w.heap[b]? = some (eBlk Ad k str)) (hk : 1 ≤ k ∧ k ≤ 18) : Err Ad w (.iface 208 (.pointer (some ⟨b, 0, none⟩))) k 1 :=
  ⟨[str], ⟨b, _, rfl, (Array.getElem?_eq_some_iff.1 h).1, cell_blk h rfl, cell_blk h rfl, rfl⟩, hk.1, hk.2, Nat.le_refl _⟩
end
section
variable {Ad : Nat → Addr} {W : World} {rv : Value} {i g : Int} {k : Nat}
set_option maxHeartbeats 1600000 in
set_option maxRecDepth 100000 in
theorem despawn_err2 (h : NoFind Ad W rv i g k) : Calls Tryz.prog 18 #[rv, .agg #[.int .i64 i, .int .i64 g]] W fun e W' => ∃ b str, e = .returned (.tuple #[.slice none 0 0, .iface 208 (.pointer (some ⟨b, 0, none⟩))]) ∧ W.heap.size ≤ b ∧ W'.heap[b]? = some (eBlk Ad k str) ∧ Below W.heap.size W W' := by
  obtain ⟨w1, hw1⟩ : ∃ w1, w1 = W.alloc (.cells #[.int .i64 i, .int .i64 g] 43) := ⟨_, rfl⟩
  have b1 : Below W.heap.size W w1 := by rw [hw1]; exact bAl _ _
  have r1 : w1.heap[W.heap.size]? = some (.cells #[.int .i64 i, .int .i64 g] 43 (0, 0)) := by rw [hw1]; exact heap_alloc_new W _
  have d0 := cell_blk r1 (j := 0) rfl
  have d1 := cell_blk r1 (j := 1) rfl
  have FD := hid (h w1 b1)
  have HW1 := hid hw1
  have B1 := hid b1
  clear hw1 b1 r1 h
  go_enter Tryz.func18, Tryz.ntmps18
  go_upto_region 1 with fail
  rw [← HW1.out]
  go_wp2_with fail
  refine FD.out.mono ?_
  rintro e w2 ⟨rfl, hb⟩
  have AC := hid (fun str => at_some str 278 (.pointer (some (Ad k))) w2)
  have B2 := hid (B1.out.trans (hb.mono B1.out.size))
  clear hb FD
  go_wp2_with fail
  refine (AC.out _).mono ?_
  rintro e w3 ⟨rfl, hw3⟩
  have HW3 := hid hw3
  clear hw3 AC
  go_wp2_with fail
  exact bodyPost_ret (v := .tuple #[.slice none 0 0, .iface 208 (.pointer (some ⟨w2.heap.size, 0, none⟩))]) (by simp [results, Tryz.results18, go_sem]) rfl ⟨w2.heap.size, _, rfl, B2.out.size, by rw [HW3.out]; exact heap_alloc_new w2 _, by rw [HW3.out]; exact B2.out.trans ((bAl w2 _).mono B2.out.size)⟩
set_option maxHeartbeats 1600000 in
set_option maxRecDepth 100000 in
theorem get_err2 (h : NoFind Ad W rv i g k) (comp : Int) : Calls Tryz.prog 38 #[rv, .agg #[.int .i64 i, .int .i64 g], .int .i64 comp] W fun e W' => ∃ b str, e = .returned (.tuple #[Pt.zero.val 0, .iface 208 (.pointer (some ⟨b, 0, none⟩))]) ∧ W.heap.size ≤ b ∧ W'.heap[b]? = some (eBlk Ad k str) ∧ Below W.heap.size W W' := by
  obtain ⟨b1, r1, p1, z1⟩ := pw_facts W i g
  have HP := part_err (fun w hb => h w (b1.trans (hb.mono b1.size))) comp (.func (.func 93) #[] #[])
  obtain ⟨w1, hw1⟩ : ∃ w1, w1 = pw W i g := ⟨_, rfl⟩
  rw [← hw1] at b1 r1 p1 z1 HP
  have d0 := cell_blk r1 (j := 0) rfl
  have d1 := cell_blk r1 (j := 1) rfl
  have PC := hid HP
  have HW1 := hid hw1
  have B1 := hid b1
  have P1 := hid p1
  have hz1 : W.heap.size + 1 < w1.heap.size := (Array.getElem?_eq_some_iff.1 p1).1
  unfold pw at HW1
  clear hw1 b1 r1 p1 HP z1 h
  go_enter Tryz.func38, Tryz.ntmps38
  go_upto_region 1 with fail
  rw [← HW1.out]
  go_wp2_with fail
  refine PC.out.mono ?_
  rintro e w2 ⟨rfl, hb2⟩
  obtain ⟨w3, hw3⟩ : ∃ w3, w3 = w2.alloc (.cells #[.int .i64 0, .int .i64 0, .int .i64 0, .int .i64 0, .int .i64 0, .int .i64 0] 47) := ⟨_, rfl⟩
  have b3 : Below w2.heap.size w2 w3 := by rw [hw3]; exact bAl _ _
  have v3 : w3.heap[w2.heap.size]? = some (.cells (Pt.zero.arr 0) 47 (0, 0)) := by rw [hw3]; exact heap_alloc_new w2 _
  have HW3 := hid hw3
  have B3 := hid ((B1.out.trans (hb2.mono B1.out.size)).trans (b3.mono (Nat.le_trans B1.out.size hb2.size)))
  have hp2 := blk_seen hb2 (Nat.le_refl _) P1.out
  have P3 := hid (blk_seen b3 (Nat.le_refl _) hp2)
  have V3 := hid v3
  have hne : W.heap.size + 1 < w2.heap.size := (Array.getElem?_eq_some_iff.1 hp2).1
  have KK : Hid (∀ W', Below w3.heap.size w3 W' → W'.cell? ⟨w2.heap.size, 0, none⟩ = some (.int .i64 0) ∧ W'.cell? ⟨w2.heap.size, 1, none⟩ = some (.int .i64 0) ∧ W'.cell? ⟨w2.heap.size, 2, none⟩ = some (.int .i64 0) ∧ W'.cell? ⟨w2.heap.size, 3, none⟩ = some (.int .i64 0) ∧ W'.cell? ⟨w2.heap.size, 4, none⟩ = some (.int .i64 0) ∧ W'.cell? ⟨w2.heap.size, 5, none⟩ = some (.int .i64 0)) := fun W' hb => by
    have q := blk_seen hb (Nat.le_refl _) V3.out
    exact ⟨cell_blk q rfl, cell_blk q rfl, cell_blk q rfl, cell_blk q rfl, cell_blk q rfl, cell_blk q rfl⟩
  have AC : Hid (∀ str W', Below w3.heap.size w3 W' → Calls Tryz.prog 63 #[.string str, .iface 278 (.pointer (some (Ad k)))] W' fun e w' => ∃ b, e = .returned (.iface 208 (.pointer (some ⟨b, 0, none⟩))) ∧ (w3.heap.size ≤ b ∧ w'.heap[b]? = some (eBlk Ad k str)) ∧ Below w3.heap.size w3 w') := fun str W' hb => (at_some str _ _ W').mono fun e w' ⟨q1, q2⟩ => ⟨W'.heap.size, q1, ⟨hb.size, by rw [q2]; exact heap_alloc_new W' _⟩, by rw [q2]; exact hb.trans ((bAl W' _).mono hb.size)⟩
  clear b3 v3 hw3 PC hb2 hp2
  go_upto_region 2 with fail
  rw [← HW3.out]
  go_region_held3 (fun W' => W'.cell? ⟨w2.heap.size, 0, none⟩ = some (.int .i64 0) ∧ W'.cell? ⟨w2.heap.size, 1, none⟩ = some (.int .i64 0) ∧ W'.cell? ⟨w2.heap.size, 2, none⟩ = some (.int .i64 0) ∧ W'.cell? ⟨w2.heap.size, 3, none⟩ = some (.int .i64 0) ∧ W'.cell? ⟨w2.heap.size, 4, none⟩ = some (.int .i64 0) ∧ W'.cell? ⟨w2.heap.size, 5, none⟩ = some (.int .i64 0))
    (first | ((conv in (World.setCell _ _ _) => skip); exact K5.out) | exact KK.out _ B4.out | exact KK.out _ (Below.refl _ _).drew | exact KK.out _ (Below.refl _ _))
    ((go_at_call 63; refine (AC.out _ _ (by first | exact (Below.refl _ _).drew | exact Below.refl _ _)).mono ?_; rintro e w4 ⟨b4, rfl, hr4, hb4⟩; have B4 := hid hb4; have R4 := hid hr4; have P4 := hid (blk_seen hb4 (Nat.le_refl _) P3.out); obtain ⟨x0, x1, x2, x3, x4, x5, f0, f1, f2, f3, f4, f5⟩ := lies P4.out; have PS := hid (st_co (put6_st w4 (W.heap.size + 1) 0 Pt.zero)); have K5 := hid (keep6 (KK.out _ hb4) PS.out (by omega)); unfold put6 at PS K5; clear hr4 hb4))
  have SM : Hid (put6 w4 (W.heap.size + 1) 0 Pt.zero = w4) := Co.put6_same P4.out
  have PB := put6_blk P4.out rfl 0 Pt.zero
  unfold put6 at PB SM
  obtain ⟨d0, d1, d2, d3, d4, d5, -, -, -, -, -, -⟩ := lies PB
  clear K5 KK AC PS x0 x1 x2 x3 x4 x5 f0 f1 f2 f3 f4 f5
  have BF := hid (B3.out.trans (B4.out.mono B3.out.size))
  change Hid ((((((w4.setCell ⟨W.heap.size + 1, 0, none⟩ (.int .i64 0)).setCell ⟨W.heap.size + 1, 1, none⟩ (.int .i64 0)).setCell ⟨W.heap.size + 1, 2, none⟩ (.int .i64 0)).setCell ⟨W.heap.size + 1, 3, none⟩ (.int .i64 0)).setCell ⟨W.heap.size + 1, 4, none⟩ (.int .i64 0)).setCell ⟨W.heap.size + 1, 5, none⟩ (.int .i64 0) = w4) at SM
  rw [SM.out]
  have e0 : w4.cell? ⟨W.heap.size + 1, 0, none⟩ = some (.int .i64 0) := cell_blk P4.out rfl
  have e1 : w4.cell? ⟨W.heap.size + 1, 1, none⟩ = some (.int .i64 0) := cell_blk P4.out rfl
  have e2 : w4.cell? ⟨W.heap.size + 1, 2, none⟩ = some (.int .i64 0) := cell_blk P4.out rfl
  have e3 : w4.cell? ⟨W.heap.size + 1, 3, none⟩ = some (.int .i64 0) := cell_blk P4.out rfl
  have e4 : w4.cell? ⟨W.heap.size + 1, 4, none⟩ = some (.int .i64 0) := cell_blk P4.out rfl
  have e5 : w4.cell? ⟨W.heap.size + 1, 5, none⟩ = some (.int .i64 0) := cell_blk P4.out rfl
  have hbB : W.heap.size ≤ b4 := Nat.le_trans B3.out.size R4.out.1
  clear d0 d1 d2 d3 d4 d5 PB SM
  go_wp2_with fail
  exact bodyPost_ret (v := .tuple #[Pt.zero.val 0, .iface 208 (.pointer (some ⟨b4, 0, none⟩))]) (by simp [results, Tryz.results38, go_sem, e0, e1, e2, e3, e4, e5, Pt.val, Pt.zero]) rfl ⟨b4, _, rfl, hbB, R4.out.2, BF.out⟩
end
section
variable {W1 w : World} {sb : Nat} {s : SD} {t : Nat} {fr : List (Nat × Obj)} {Ad : Nat → Addr}
theorem Aw.more (h : Aw W1 sb s t fr w) {w' : World} (hb : Below w.heap.size w w') {b : Nat} {o : Obj} (h1 : w.heap.size ≤ b) (h2 : w'.heap[b]? = some o) : Aw W1 sb s t ((b, o) :: fr) w' := by
  have h' := h.later hb
  obtain ⟨c, e1, e2, e3⟩ := h.ex
  refine ⟨⟨c, e1.later hb, e2, fun x hx => ?_⟩, h'.bel⟩
  rcases List.mem_cons.1 hx with rfl | hx
  · exact ⟨Classical.byContradiction fun q => by have := (e1.lt _ q).2; omega, h2⟩
  · exact (e3 x hx).later hb
theorem aw_despawn_dead (h : Aw W1 sb s t fr w) (hE : Env8 W1 Ad) {i g : Nat} (hi : I64 (i : Int)) (hg : I64 (g : Int)) (ha : s.r.aliveB (i : Int) (g : Int) = false) : Calls Tryz.prog 18 #[.pointer (some ⟨sb, 0, none⟩), .agg #[.int .i64 (i : Int), .int .i64 (g : Int)]] w fun e w2 => ∃ b str, e = .returned (.tuple #[.slice none 0 0, .iface 208 (.pointer (some ⟨b, 0, none⟩))]) ∧ Aw W1 sb s t ((b, eBlk Ad 17 str) :: fr) w2 := by
  obtain ⟨c, e1, e2, e3⟩ := h.ex
  refine (despawn_err2 (nofind_dead Ad e1 (h.env hE) i g hi hg ha)).mono ?_
  rintro e w2 ⟨b, str, rfl, q1, q2, q3⟩
  exact ⟨b, str, rfl, h.more q3 q1 q2⟩
theorem aw_get_dead (h : Aw W1 sb s t fr w) (hE : Env8 W1 Ad) {i g : Nat} (hi : I64 (i : Int)) (hg : I64 (g : Int)) (ha : s.r.aliveB (i : Int) (g : Int) = false) (comp : Int) : Calls Tryz.prog 38 #[.pointer (some ⟨sb, 0, none⟩), .agg #[.int .i64 (i : Int), .int .i64 (g : Int)], .int .i64 comp] w fun e w2 => ∃ b str, e = .returned (.tuple #[Pt.zero.val 0, .iface 208 (.pointer (some ⟨b, 0, none⟩))]) ∧ Aw W1 sb s t ((b, eBlk Ad 17 str) :: fr) w2 := by
  obtain ⟨c, e1, e2, e3⟩ := h.ex
  refine (get_err2 (nofind_dead Ad e1 (h.env hE) i g hi hg ha) comp).mono ?_
  rintro e w2 ⟨b, str, rfl, q1, q2, q3⟩
  exact ⟨b, str, rfl, h.more q3 q1 q2⟩
theorem aw_despawn2 (h : Aw W1 sb s t fr w) {i g : Nat} (ha : al s i g) : Calls Tryz.prog 18 #[.pointer (some ⟨sb, 0, none⟩), .agg #[.int .i64 (i : Int), .int .i64 (g : Int)]] w fun e w2 => ∃ va vc, e = .returned (.tuple #[.slice va (s.at i).length vc, .nilIface]) ∧ ∃ fr0, Aw W1 sb { s with r := s.r.freed i } t (fr0 ++ fr) w2 ∧ ∀ s3 t3 fr3 w3, (∀ x ∈ fr0, x ∈ fr3) → Aw W1 sb s3 t3 fr3 w3 → PRow w3 (.slice va (s.at i).length vc) (s.at i) := by
  obtain ⟨c, e1, e2, e3⟩ := h.ex
  refine (despawn_ok e1 ha).mono ?_
  rintro e w2 ⟨v, rfl, q1, c', q2, q3, q4, q5⟩
  obtain ⟨va, vc, rfl⟩ := q1.slice
  obtain ⟨fr0, x1, x2, x3⟩ := own_fr q1
  have A := Aw.go e1 e3 h.bel q2 (t' := t) (by omega) q4
  obtain ⟨c2, y1, y2, y3⟩ : ∃ c2, Sto none W1.heap.size w2 sb c2 { s with r := s.r.freed i } ∧ c2.t ≤ t ∧ ∀ x ∈ fr0 ++ fr, Fr c2 w2 x.1 x.2 := ⟨c', q2, by omega, fun x hx => by
    rcases List.mem_append.1 hx with hx | hx
    · exact ⟨q5 _ (x1 x hx).2, (x1 x hx).1⟩
    · exact (e3 x hx).step q4⟩
  refine ⟨va, vc, rfl, fr0, ⟨⟨c2, y1, y2, y3⟩, A.bel⟩, fun s3 t3 fr3 w3 hs h3 => ?_⟩
  exact Prts.row (x3 w3 fun x hx => h3.at (hs x hx))
end
end Go.Proofs.YtagjmggiaffihaaGreatDoor.So
namespace Go.Proofs.YtagjmggiaffihaaGreatDoor.So
open Go.RowKit Go.Shelf Go.Maps
open Go.Proofs.YtagjmggiaffihaaGreatDoor.Co (I64 I64_mid Pt)
open Go.Proofs.YtagjmggiaffihaaGreatDoor.At (St bAl cell_blk blk_seen blk_free Err)
open Go.Proofs.YtagjmggiaffihaaGreatDoor.Ro (RS Ents)
open Go.Proofs.YtagjmggiaffihaaGreatDoor.Rs (SD mskP Prt Prts PRow okL fitP remP insP)
/-- All but one entity have what they had. -/
structure But (n : Nat) (s s' : SD) : Prop where
  ws : s'.ws = s.ws
  al : ∀ j g, j ≠ n → al s j g → al s' j g
  at' : ∀ j, j ≠ n → s'.at j = s.at j
theorem But.refl (n : Nat) (s : SD) : But n s s := ⟨rfl, fun _ _ _ h => h, fun _ _ => rfl⟩
theorem but_entered (n : Nat) (s : SD) (l : List Prt) : But n s (entered s n l) := ⟨rfl, fun _ _ _ h => h, fun _ h => at_other l h⟩
theorem but_rowed (n : Nat) (s : SD) (l : List Prt) : But n s (rowed s n l) := ⟨rfl, fun _ _ _ h => h, fun _ h => at_rowed_other l h⟩
theorem but_freed (n : Nat) (s : SD) : But n s { s with r := s.r.freed n } := ⟨rfl, fun j g hj h => by
  rw [al_iff] at h ⊢
  exact ⟨fun q => by simp [RS.freed] at q; exact q.elim h.1 hj, h.2⟩, fun _ _ => rfl⟩
section
variable {W1 w : World} {sb : Nat} {s : SD} {t : Nat} {fr : List (Nat × Obj)} {Ad : Nat → Addr} {i g : Nat}
theorem aw_nofind (h : Aw W1 sb s t fr w) (hE : Env8 W1 Ad) (hi : I64 (i : Int)) (hg : I64 (g : Int)) (ha : ¬ al s i g) : NoFind Ad w (.pointer (some ⟨sb, 0, none⟩)) i g 17 := by
  obtain ⟨c, e1, e2, e3⟩ := h.ex
  exact nofind_dead Ad e1 (h.env hE) i g hi hg (Bool.eq_false_iff.2 ha)
theorem any_despawn (h : Aw W1 sb s t fr w) (hE : Env8 W1 Ad) (hi : I64 (i : Int)) (hg : I64 (g : Int)) :
    Calls Tryz.prog 18 #[.pointer (some ⟨sb, 0, none⟩), .agg #[.int .i64 (i : Int), .int .i64 (g : Int)]] w fun e w2 => ∃ u r, e = .returned (.tuple #[u, r]) ∧ ∃ s', But i s s' ∧ Aw W1 sb s' t fr w2 := by
  by_cases ha : al s i g
  · refine (aw_despawn h ha).mono ?_
    rintro e w2 ⟨v, rfl, -, q⟩
    exact ⟨_, _, rfl, _, but_freed i s, q⟩
  · refine (despawn_err (aw_nofind h hE hi hg ha) (by omega)).mono ?_
    rintro e w2 ⟨r, rfl, -, q⟩
    exact ⟨_, _, rfl, s, But.refl i s, h.later q⟩
theorem any_insert (h : Aw W1 sb s t fr w) (hE : Env8 W1 Ad) (hi : I64 (i : Int)) (hg : I64 (g : Int)) (p : Prt) (hf : fitP s.ws p = true) (ht : I64 p.t) :
    Calls Tryz.prog 21 #[.pointer (some ⟨sb, 0, none⟩), .agg #[.int .i64 (i : Int), .int .i64 (g : Int)], p.val] w fun e w2 => ∃ r, e = .returned r ∧ ∃ s', But i s s' ∧ Aw W1 sb s' t fr w2 := by
  by_cases ha : al s i g
  · by_cases hq : ∃ q ∈ s.at i, q.c = p.c
    · obtain ⟨q, h1, h2⟩ := hq
      refine (aw_twice h hE ha p q hf h1 h2).mono ?_
      rintro e w2 ⟨r, rfl, -, q⟩
      exact ⟨_, rfl, s, But.refl i s, q⟩
    · refine (aw_insert h hE ha p hf ht fun q h1 h2 => hq ⟨q, h1, h2⟩).mono ?_
      rintro e w2 ⟨rfl, q⟩
      exact ⟨_, rfl, _, but_entered i s _, q⟩
  · have NF := aw_nofind h hE hi hg ha
    refine (insert_err (p := p) (k := 17) (by omega) fun _ hb => tableFor_err (NF.later hb) (by omega) p).mono ?_
    rintro e w2 ⟨r, rfl, -, q⟩
    exact ⟨_, rfl, s, But.refl i s, h.later q⟩
theorem any_remove (h : Aw W1 sb s t fr w) (hE : Env8 W1 Ad) (hi : I64 (i : Int)) (hg : I64 (g : Int)) (comp : Int) (hc : I64 comp) :
    Calls Tryz.prog 23 #[.pointer (some ⟨sb, 0, none⟩), .agg #[.int .i64 (i : Int), .int .i64 (g : Int)], .int .i64 comp] w fun e w2 => ∃ u r, e = .returned (.tuple #[u, r]) ∧ ∃ s', But i s s' ∧ Aw W1 sb s' t fr w2 := by
  by_cases ha : al s i g
  · by_cases hq : ∃ q ∈ s.at i, q.c = comp
    · obtain ⟨q, h1, rfl⟩ := hq
      refine (aw_remove h ha q h1).mono ?_
      rintro e w2 ⟨rfl, q⟩
      exact ⟨_, _, rfl, _, but_entered i s _, q⟩
    · obtain ⟨c, e1, e2, e3⟩ := h.ex
      refine (remove_err (k := 7) (by omega) fun W' hb => get_none (e1.later hb) ((h.env hE).later hb) ha comp hc fun q h1 h2 => hq ⟨q, h1, h2⟩).mono ?_
      rintro e w2 ⟨r, rfl, -, q⟩
      exact ⟨_, _, rfl, s, But.refl i s, h.later q⟩
  · have NF := aw_nofind h hE hi hg ha
    refine (remove_err (k := 17) (by omega) fun W' hb => get_err (NF.later hb) (by omega) comp).mono ?_
    rintro e w2 ⟨r, rfl, -, q⟩
    exact ⟨_, _, rfl, s, But.refl i s, h.later q⟩
theorem any_put (h : Aw W1 sb s t fr w) (hE : Env8 W1 Ad) (hi : I64 (i : Int)) (hg : I64 (g : Int)) (p : Prt) (hf : fitP s.ws p = true) (ht : I64 p.t) :
    Calls Tryz.prog 25 #[.pointer (some ⟨sb, 0, none⟩), .agg #[.int .i64 (i : Int), .int .i64 (g : Int)], p.val] w fun e w2 => ∃ u r, e = .returned (.tuple #[u, r]) ∧ ∃ s', But i s s' ∧ Aw W1 sb s' t fr w2 := by
  obtain ⟨c, e1, e2, e3⟩ := h.ex
  by_cases ha : al s i g
  · by_cases hq : ∃ q ∈ s.at i, q.c = p.c
    · obtain ⟨q, h1, h2⟩ := hq
      refine (put_ok e1 (h.env hE) ha p q hf ht h1 h2).mono ?_
      rintro e w2 ⟨rfl, c', q1, q2, -, q3⟩
      exact ⟨_, _, rfl, _, but_rowed i s _, Aw.go e1 e3 h.bel q1 (by omega) q3⟩
    · refine (put_none e1 (h.env hE) ha p hf fun q h1 h2 => hq ⟨q, h1, h2⟩).mono ?_
      rintro e w2 ⟨r, rfl, -, q⟩
      exact ⟨_, _, rfl, s, But.refl i s, h.later q⟩
  · refine (put_out (aw_nofind h hE hi hg ha) (by omega) p).mono ?_
    rintro e w2 ⟨r, rfl, -, q⟩
    exact ⟨_, _, rfl, s, But.refl i s, h.later q⟩
theorem any_set (h : Aw W1 sb s t fr w) (hE : Env8 W1 Ad) (hi : I64 (i : Int)) (hg : I64 (g : Int)) {cc : Nat} (hcc : cc < 8) (hws : s.ws = ones) (value frame : Int) (hfr : I64 frame) :
    Calls Tryz.prog 27 #[.pointer (some ⟨sb, 0, none⟩), .agg #[.int .i64 (i : Int), .int .i64 (g : Int)], .int .i64 (cc : Int), .int .i64 0, .int .i64 value, .int .i64 frame] w fun e w2 => ∃ u r, e = .returned (.tuple #[u, r]) ∧ ∃ s', But i s s' ∧ Aw W1 sb s' t fr w2 := by
  obtain ⟨c, e1, e2, e3⟩ := h.ex
  have hw : s.ws[cc]? = some 1 := by
    rw [hws]
    have : cc = 0 ∨ cc = 1 ∨ cc = 2 ∨ cc = 3 ∨ cc = 4 ∨ cc = 5 ∨ cc = 6 ∨ cc = 7 := by omega
    rcases this with rfl | rfl | rfl | rfl | rfl | rfl | rfl | rfl <;> rfl
  by_cases ha : al s i g
  · by_cases hq : ∃ q ∈ s.at i, q.c = (cc : Int)
    · obtain ⟨q, h1, h2⟩ := hq
      have := set_ok e1 ha q h1 h2 hw 0 (by omega) value frame hfr
      rw [h2] at this
      refine this.mono ?_
      rintro e w2 ⟨rfl, c', q1, q2, -, q3⟩
      exact ⟨_, _, rfl, _, but_rowed i s _, Aw.go e1 e3 h.bel q1 (by omega) q3⟩
    · refine (set_none e1 (h.env hE) ha (cc : Int) (I64_mid (by omega) (by omega)) (fun q h1 h2 => hq ⟨q, h1, h2⟩) 0 value frame).mono ?_
      rintro e w2 ⟨r, rfl, -, q⟩
      exact ⟨_, _, rfl, s, But.refl i s, h.later q⟩
  · refine (set_out (aw_nofind h hE hi hg ha) (by omega) (cc : Int) 0 value frame).mono ?_
    rintro e w2 ⟨r, rfl, -, q⟩
    exact ⟨_, _, rfl, s, But.refl i s, h.later q⟩
end
end Go.Proofs.YtagjmggiaffihaaGreatDoor.So
namespace Go.Proofs.YtagjmggiaffihaaGreatDoor.Sc
open Go.RowKit Go.Shelf
/-- The set of one number. -/
def bitI (n : Int) : Int := if 0 ≤ n ∧ n < 32 then 2 ^ n.toNat % 4294967296 else 0
set_option maxHeartbeats 800000 in
theorem bit_low (n : Int) (w : World) (h : n < 0) : Calls Tryz.prog 98 #[.int .i64 n] w fun e w' => e = .returned (.int .u32 0) ∧ w' = w := by
  go_enter Tryz.func98, Tryz.ntmps98
  go_wp2
  go_ret
  exact ⟨rfl, rfl⟩
set_option maxHeartbeats 800000 in
theorem bit_high (n : Int) (w : World) (h : 32 ≤ n) : Calls Tryz.prog 98 #[.int .i64 n] w fun e w' => e = .returned (.int .u32 0) ∧ w' = w := by
  have h0 : ¬ n < 0 := by omega
  go_enter Tryz.func98, Tryz.ntmps98
  go_wp2
  go_ret
  exact ⟨rfl, rfl⟩
set_option maxHeartbeats 800000 in
theorem bit_in (n : Nat) (w : World) (h : n < 32) : Calls Tryz.prog 98 #[.int .i64 (n : Int)] w fun e w' => e = .returned (.int .u32 (2 ^ n % 4294967296)) ∧ w' = w := by
  have h0 : ¬ (n : Int) < 0 := by omega
  have h1 : ¬ (32 : Int) ≤ n := by omega
  go_enter Tryz.func98, Tryz.ntmps98
  go_wp2
  go_ret
  exact ⟨rfl, rfl⟩
theorem bit_any (n : Int) (w : World) : Calls Tryz.prog 98 #[.int .i64 n] w fun e w' => e = .returned (.int .u32 (bitI n)) ∧ w' = w := by
  by_cases h0 : n < 0
  · rw [show bitI n = 0 from if_neg (by omega)]; exact bit_low n w h0
  · by_cases h1 : 32 ≤ n
    · rw [show bitI n = 0 from if_neg (by omega)]; exact bit_high n w h1
    · obtain ⟨k, rfl⟩ := Int.eq_ofNat_of_zero_le (show 0 ≤ n by omega)
      rw [show bitI (k : Int) = 2 ^ k % 4294967296 from (if_pos (by omega)).trans (by rw [Int.toNat_natCast])]
      exact bit_in k w (by omega)
def orI (m n : Int) : Int := bits .or .u32 m (bitI n)
set_option maxHeartbeats 800000 in
theorem with_any (m n : Int) (w : World) : Calls Tryz.prog 49 #[.int .u32 m, .int .i64 n] w fun e w' => e = .returned (.int .u32 (bits .or .u32 m (bitI n))) ∧ w' = w := by
  have BC := hid (bit_any n w)
  go_enter Tryz.func49, Tryz.ntmps49
  go_wp2_with fail
  refine BC.out.mono ?_
  rintro e w1 ⟨rfl, rfl⟩
  go_wp2_with fail
  go_ret
  exact ⟨rfl, rfl⟩
set_option maxHeartbeats 800000 in
theorem has_any5 (m n : Int) (w : World) : Calls Tryz.prog 47 #[.int .u32 m, .int .i64 n] w fun e w' => e = .returned (.bool (bits .and .u32 m (bitI n) != 0)) ∧ w' = w := by
  have BC := hid (bit_any n w)
  go_enter Tryz.func47, Tryz.ntmps47
  go_wp2_with fail
  refine BC.out.mono ?_
  rintro e w1 ⟨rfl, rfl⟩
  go_wp2_with fail
  go_ret
  exact ⟨rfl, rfl⟩
set_option maxHeartbeats 800000 in
theorem within_any (m a : Int) (w : World) : Calls Tryz.prog 87 #[.int .u32 m, .int .u32 a] w fun e w' => e = .returned (.bool (bits .andNot .u32 m a == 0)) ∧ w' = w := by
  go_enter Tryz.func87, Tryz.ntmps87
  go_wp2
  go_ret
  exact ⟨rfl, rfl⟩
def ofM (ds : List Int) : Int := ds.foldl orI 0
theorem ofM_next {ds : List Int} {k : Nat} {x : Int} (h : ds[k]? = some x) : ofM (ds.take (k + 1)) = orI (ofM (ds.take k)) x := by
  unfold ofM
  rw [take_next h, List.foldl_append]; rfl
/-- The components of a kind, as a set. -/
def kindM (cs : List Cmp) (b : Bool) : Nat → Int
  | 0 => 0
  | k + 1 => match cs[k]? with | some c => if c.rb == b then orI (kindM cs b k) (k : Int) else kindM cs b k | none => kindM cs b k
theorem kindM_next {cs : List Cmp} {k : Nat} {c : Cmp} (b : Bool) (h : cs[k]? = some c) : kindM cs b (k + 1) = if c.rb == b then orI (kindM cs b k) (k : Int) else kindM cs b k := by simp only [kindM, h]
end Go.Proofs.YtagjmggiaffihaaGreatDoor.Sc
namespace Go.Proofs.YtagjmggiaffihaaGreatDoor.Sc
open Go.RowKit Go.Shelf
theorem pop_at (b : Int) (h0 : 0 ≤ b) (h : b < 256) (hh : b.toNat < Lib.pop8tab.size) : (Lib.pop8tab[b.toNat].toNat : Int) = (Lib.onesCount b.toNat : Int) := by
  have e := Lib.pop8_eq ⟨b.toNat, by omega⟩
  simp only [Int.toNat_of_nonneg h0] at e
  rw [← e]
  unfold Lib.pop8
  rw [getElem?_pos Lib.pop8tab b.toNat hh]
  rfl
set_option maxHeartbeats 1600000 in
theorem ones_any (x : Int) (w : World) (_h0 : 0 ≤ x) (_h1 : x ≤ 4294967295) (b3 b2 b1 b0 : Int) (e3 : x / 16777216 = b3) (e2 : bits .and .u32 (x / 65536) 255 = b2) (e1 : bits .and .u32 (x / 256) 255 = b1) (e0 : bits .and .u32 x 255 = b0)
    (r3 : 0 ≤ b3 ∧ b3 < 256) (r2 : 0 ≤ b2 ∧ b2 < 256) (r1 : 0 ≤ b1 ∧ b1 < 256) (r0 : 0 ≤ b0 ∧ b0 < 256) (z : Int) (hz : ((Lib.onesCount b3.toNat : Int) + Lib.onesCount b2.toNat + Lib.onesCount b1.toNat + Lib.onesCount b0.toNat) % 256 = z) :
    Calls Tryz.prog 99 #[.int .u32 x] w fun e w' => e = .returned (.int .i64 z) ∧ Below w.heap.size w w' := by
  obtain ⟨r3a, r3b⟩ := r3
  obtain ⟨r2a, r2b⟩ := r2
  obtain ⟨r1a, r1b⟩ := r1
  obtain ⟨r0a, r0b⟩ := r0
  have hp : (Lib.pop8tab.size : Int) = 256 := by decide +kernel
  have t3 : b3 < (Lib.pop8tab.size : Int) := by omega
  have t2 : b2 < (Lib.pop8tab.size : Int) := by omega
  have t1 : b1 < (Lib.pop8tab.size : Int) := by omega
  have t0 : b0 < (Lib.pop8tab.size : Int) := by omega
  have n3 : b3.toNat < Lib.pop8tab.size := by omega
  have P3 := hid (pop_at b3 r3a r3b n3)
  have n2 : b2.toNat < Lib.pop8tab.size := by omega
  have P2 := hid (pop_at b2 r2a r2b n2)
  have n1 : b1.toNat < Lib.pop8tab.size := by omega
  have P1 := hid (pop_at b1 r1a r1b n1)
  have n0 : b0.toNat < Lib.pop8tab.size := by omega
  have P0 := hid (pop_at b0 r0a r0b n0)
  have HZ := hid hz
  clear hp hz
  go_enter Tryz.func99, Tryz.ntmps99
  go_wp2_with fail
  go_quiet (fail)
  go_wp2_with fail
  go_ret
  refine ⟨?_, ⟨rfl, rfl, rfl, Nat.le_refl _, fun _ _ => rfl⟩⟩
  rw [← HZ.out, ← P3.out, ← P2.out, ← P1.out, ← P0.out]
  rfl
/-- The ones among the first k digits. -/
def ones (k m : Nat) : Nat := Lib.popAux k m
theorem ones_step (k m : Nat) : ones (k + 1) m = ones k m + m / 2 ^ k % 2 := by
  unfold ones
  induction k generalizing m with
  | zero => simp [Lib.popAux]
  | succ k ih =>
    rw [Lib.popAux, ih (m / 2), Lib.popAux, Nat.pow_succ, Nat.div_div_eq_div_mul, Nat.mul_comm 2 (2 ^ k)]
    omega
theorem ones_le (k m : Nat) : ones k m ≤ k := by
  induction k with
  | zero => simp [ones, Lib.popAux]
  | succ k ih => rw [ones_step]; omega
theorem ones8_mod (m : Nat) : ones 8 (m % 256) = ones 8 m := by
  simp only [ones, Lib.popAux]
  omega
theorem ones_more (k m : Nat) : ones (8 + k) m = ones 8 m + ones k (m / 256) := by
  unfold ones
  rw [show 8 + k = k + 1 + 1 + 1 + 1 + 1 + 1 + 1 + 1 by omega]
  simp only [Lib.popAux, Nat.div_div_eq_div_mul, Nat.reduceMul]
  omega
theorem ones64 : ∀ n : Fin 256, Lib.onesCount n.val = ones 8 n.val := by decide +kernel
theorem ones32 (m : Nat) : ones 32 m = ones 8 (m / 16777216 % 256) + ones 8 (m / 65536 % 256) + ones 8 (m / 256 % 256) + ones 8 (m % 256) := by
  rw [ones8_mod, ones8_mod, ones8_mod, ones8_mod, show 32 = 8 + (8 + (8 + 8)) from rfl, ones_more, ones_more, ones_more]
  simp only [Nat.div_div_eq_div_mul, Nat.reduceMul]
  omega
theorem and255 (a : Nat) (h : a < 4294967296) : bits .and .u32 (a : Int) 255 = ((a % 256 : Nat) : Int) := by
  have := bits_mask .u32 32 (by decide) (fun n h0 h1 => by rw [IntKind.wrap_u32]; omega) 8 (by decide) (a : Int) (by omega) (by omega)
  rw [show (255 : Int) = 2 ^ 8 - 1 by decide, this]
  omega
theorem count32 (m : Nat) (h : m < 4294967296) (w : World) : Calls Tryz.prog 99 #[.int .u32 (m : Int)] w fun e w' => e = .returned (.int .i64 (ones 32 m : Int)) ∧ Below w.heap.size w w' := by
  have o := fun (n : Nat) (hn : n < 256) => ones64 ⟨n, hn⟩
  have q3 := o (m / 16777216 % 256) (Nat.mod_lt _ (by decide))
  have q2 := o (m / 65536 % 256) (Nat.mod_lt _ (by decide))
  have q1 := o (m / 256 % 256) (Nat.mod_lt _ (by decide))
  have q0 := o (m % 256) (Nat.mod_lt _ (by decide))
  simp only [] at q3 q2 q1 q0
  have l := ones_le 32 m
  refine ones_any (m : Int) w (by omega) (by omega) ((m / 16777216 % 256 : Nat) : Int) ((m / 65536 % 256 : Nat) : Int) ((m / 256 % 256 : Nat) : Int) ((m % 256 : Nat) : Int) (by omega) ?_ ?_ (and255 m h) (by omega) (by omega) (by omega) (by omega) _ ?_
  · rw [← and255 (m / 65536) (by omega)]; rfl
  · rw [← and255 (m / 256) (by omega)]; rfl
  · simp only [Int.toNat_natCast]
    rw [q3, q2, q1, q0, ones32 m] at *
    omega
end Go.Proofs.YtagjmggiaffihaaGreatDoor.Sc
namespace Go.Proofs.YtagjmggiaffihaaGreatDoor.Sc
open Go.RowKit Go.Shelf
set_option maxHeartbeats 800000 in
theorem count_any (m : Nat) (h : m < 4294967296) (w : World) : Calls Tryz.prog 48 #[.int .u32 (m : Int)] w fun e w' => e = .returned (.int .i64 (ones 32 m : Int)) ∧ Below w.heap.size w w' := by
  have OC := hid (count32 m h w)
  clear h
  go_enter Tryz.func48, Tryz.ntmps48
  go_wp2_with fail
  refine OC.out.mono ?_
  rintro e w1 ⟨rfl, b1⟩
  have B1 := hid b1
  clear b1 OC
  go_wp2_with fail
  go_ret
  exact ⟨rfl, B1.out⟩
/-- Whether a number is in a set. -/
def inB (m : Nat) (n : Int) : Bool := decide (0 ≤ n ∧ n < 32) && decide (m / 2 ^ n.toNat % 2 = 1)
theorem inB_out (m : Nat) (n : Int) (h : ¬ (0 ≤ n ∧ n < 32)) : inB m n = false := by simp [inB, h]
theorem inB_in (m k : Nat) (h : k < 32) : inB m (k : Int) = decide (m / 2 ^ k % 2 = 1) := by
  unfold inB
  rw [decide_eq_true (show (0 : Int) ≤ k ∧ (k : Int) < 32 by omega), Int.toNat_natCast]
  rfl
theorem tmod_at (m k : Nat) : (((m : Int) / 2 ^ k).tmod 2 == 1) = decide (m / 2 ^ k % 2 = 1) := by
  have e1 : (m : Int) / 2 ^ k = ((m / 2 ^ k : Nat) : Int) := by simp
  rw [e1, show (2 : Int) = ((2 : Nat) : Int) from rfl, ← Int.ofNat_tmod, Bool.eq_iff_iff]
  simp
  omega
theorem bits_or0 (b : Nat) (h : b < 4294967296) : bits .or .u32 0 (b : Int) = (b : Int) := by
  have := (bits_nat .u32 32 (by decide) (fun n h0 h1 => by rw [IntKind.wrap_u32]; omega) 0 b (by decide) (by omega)).2
  simpa using this
theorem bits_and2 (m k : Nat) (h : m < 4294967296) (hk : k < 32) : (bits .and .u32 (m : Int) ((2 ^ k : Nat) : Int) != 0) = decide (m / 2 ^ k % 2 = 1) := by
  have hp : 2 ^ k < 4294967296 := Nat.lt_of_lt_of_le (Nat.pow_lt_pow_right (by decide) hk) (by decide)
  have e := (bits_nat .u32 32 (by decide) (fun n h0 h1 => by rw [IntKind.wrap_u32]; omega) m (2 ^ k) (by omega) (by omega)).1
  rw [e]
  have hb : (m &&& 2 ^ k).testBit k = m.testBit k := by rw [Nat.testBit_and, Nat.testBit_two_pow_self, Bool.and_true]
  rw [← Nat.testBit_eq_decide_div_mod_eq]
  cases ht : m.testBit k with
  | true =>
    rw [ht] at hb
    have : m &&& 2 ^ k ≠ 0 := fun h0 => by rw [h0] at hb; simp at hb
    rw [bne_iff_ne]
    exact_mod_cast this
  | false =>
    have : m &&& 2 ^ k = 0 := Nat.eq_of_testBit_eq fun i => by
      rw [Nat.testBit_and, Nat.testBit_two_pow, Nat.zero_testBit]
      by_cases hik : k = i
      · subst hik; rw [ht]; rfl
      · rw [decide_eq_false hik, Bool.and_false]
    rw [this]; rfl
theorem bitI_in (k : Nat) (hk : k < 32) : bitI (k : Int) = ((2 ^ k : Nat) : Int) := by
  have hp : 2 ^ k < 4294967296 := Nat.lt_of_lt_of_le (Nat.pow_lt_pow_right (by decide) hk) (by decide)
  unfold bitI
  rw [if_pos (by omega), Int.toNat_natCast]
  have : (2 : Int) ^ k = ((2 ^ k : Nat) : Int) := (Int.natCast_pow 2 k).symm
  rw [this]
  exact Int.emod_eq_of_lt (Int.natCast_nonneg _) (by generalize 2 ^ k = p at hp ⊢; omega)
theorem bitI_out (n : Int) (h : ¬ (0 ≤ n ∧ n < 32)) : bitI n = 0 := if_neg h
theorem has_in (m : Nat) (h : m < 4294967296) (n : Int) : (bits .and .u32 (m : Int) (bitI n) != 0) = inB m n := by
  by_cases hn : 0 ≤ n ∧ n < 32
  · obtain ⟨k, rfl⟩ := Int.eq_ofNat_of_zero_le hn.1
    rw [bitI_in k (by omega), inB_in m k (by omega)]
    exact bits_and2 m k h (by omega)
  · rw [bitI_out n hn, inB_out m n hn]
    have e := (bits_nat .u32 32 (by decide) (fun n h0 h1 => by rw [IntKind.wrap_u32]; omega) m 0 (by omega) (by decide)).1
    rw [Nat.and_zero] at e
    rw [show (0 : Int) = ((0 : Nat) : Int) from rfl, e]
    rfl
end Go.Proofs.YtagjmggiaffihaaGreatDoor.Sc
namespace Go.Proofs.YtagjmggiaffihaaGreatDoor.So
open Go.RowKit Go.Shelf Go.Maps
open Go.Proofs.YtagjmggiaffihaaGreatDoor.Co (I64 I64_mid Pt)
open Go.Proofs.YtagjmggiaffihaaGreatDoor.At (St bAl cell_blk blk_seen blk_free Err an wi bits_and32 bits_an32)
open Go.Proofs.YtagjmggiaffihaaGreatDoor.Ro (RS Ents)
open Go.Proofs.YtagjmggiaffihaaGreatDoor.Rs (SD mskP Prt Prts PRow okL fitP remP insP insr insP_rec)
theorem u64_nat (m : Int) : ∃ q : Nat, IntKind.u64.wrap m = (q : Int) := by
  have h : 0 ≤ IntKind.u64.wrap m := by
    show 0 ≤ m % _
    exact Int.emod_nonneg _ (by decide)
  exact Int.eq_ofNat_of_zero_le h
theorem rem_at (m : Int) (n : Nat) (h0 : 0 < n) : ∃ (u : Int) (k : Nat), k < n ∧ IntKind.u64.wrap m = u ∧ u.tmod (n : Int) = (k : Int) := by
  obtain ⟨q, hq⟩ := u64_nat m
  exact ⟨_, q % n, Nat.mod_lt _ h0, hq, by rw [← Int.ofNat_tmod]⟩
theorem and8 (m : Nat) (h : m < 4294967296) : bits .and .u32 (m : Int) 255 = ((m % 256 : Nat) : Int) := by
  have := bits_and32 m 255 h (by decide)
  rw [show (255 : Nat) = 2 ^ 8 - 1 from rfl, Nat.and_two_pow_sub_one_eq_mod] at this
  exact this
theorem an8 (m : Nat) (h : m < 4294967296) : bits .andNot .u32 255 (m : Int) = ((an 255 m : Nat) : Int) := bits_an32 255 m (by decide) h
def MRow (W : World) (v : Value) (ts : List Nat) : Prop := (∀ x ∈ ts, x < 4294967296) ∧ ∃ a c, v = .slice a ts.length c ∧ (ts = [] ∨ ∃ b o, a = some ⟨b, o, none⟩ ∧ ∀ (j : Nat) x, ts[j]? = some x → W.cell? ⟨b, o + j, none⟩ = some (.int .u32 (x : Int)))
theorem law_mod (m : Nat) (v : Int) : lawL (m % 256) v 8 = lawL m v 8 := by
  have G : ∀ k, k ≤ 8 → lawL (m % 256) v k = lawL m v k := fun k => by
    induction k with
    | zero => intro _; rfl
    | succ k ih =>
      intro hk
      unfold lawL
      rw [ih (by omega), show (256 : Nat) = 2 ^ 8 from rfl, Nat.testBit_mod_two_pow, decide_eq_true (show k < 8 by omega), Bool.true_and]
  exact G 8 (Nat.le_refl _)
theorem law_len (m : Nat) (v : Int) : ∀ k, (lawL m v k).length = Sc.ones k m
  | 0 => rfl
  | k + 1 => by
    unfold lawL
    rw [Sc.ones_step]
    have e : m.testBit k = decide (m / 2 ^ k % 2 = 1) := by rw [Nat.testBit_eq_decide_div_mod_eq]
    split
    · rename_i h
      rw [e] at h
      rw [List.length_append, law_len m v k, of_decide_eq_true h]
      rfl
    · rename_i h
      rw [e] at h
      have : ¬ m / 2 ^ k % 2 = 1 := fun q => h (decide_eq_true q)
      rw [law_len m v k]
      omega
def movesB : Bool := (List.range 256).all fun m => (List.range 8).all fun c => decide (Sc.ones 32 (wi m c) = Sc.ones 8 m + (if m.testBit c then 0 else 1))
theorem moves_ok : movesB = true := by kernel_rfl
theorem moves_cnt {m c : Nat} (hm : m < 256) (hc : c < 8) : Sc.ones 32 (wi m c) = Sc.ones 8 m + (if m.testBit c then 0 else 1) := by
  have h := moves_ok
  unfold movesB at h
  have h1 := List.all_eq_true.1 h m (List.mem_range.2 hm)
  have h2 := List.all_eq_true.1 h1 c (List.mem_range.2 hc)
  exact of_decide_eq_true h2
/-- A part put in and taken out again leaves what was. -/
theorem rem_ins {l : List Prt} {p : Prt} (hno : ∀ q ∈ l, q.c ≠ p.c) : remP (insP l p) p.c = l := by
  have G : ∀ l : List Prt, (∀ q ∈ l, q.c ≠ p.c) → remP (insr p l) p.c = l := fun l => by
    induction l with
    | nil => intro _; simp [insr, remP]
    | cons x l ih =>
      intro h
      have hx := h x (List.mem_cons_self ..)
      have hr : remP l p.c = l := List.filter_eq_self.2 fun q hq => by simpa using h q (List.mem_cons_of_mem _ hq)
      have i2 := ih fun q hq => h q (List.mem_cons_of_mem _ hq)
      unfold insr
      split
      · unfold remP at hr ⊢
        simp [hx, hr]
      · unfold remP at i2 ⊢
        simp [hx, i2]
  rw [insP_rec]
  exact G l hno
/-- A part taken out and put in again leaves what was. -/
theorem ins_rem {ws : List Nat} {l : List Prt} {p : Prt} (hok : okL ws l) (hp : p ∈ l) : insP (remP l p.c) p = l := by
  have hs : l.Pairwise (fun x y => x.c < y.c) := hok.1
  have hmem : ∀ x, x ∈ insP (remP l p.c) p ↔ x ∈ l := fun x => by
    rw [insP_rec, Rs.mem_insr, remP, List.mem_filter]
    constructor
    · rintro (rfl | h)
      · exact hp
      · exact h.1
    · intro h
      by_cases e : x = p
      · exact .inl e
      · refine .inr ⟨h, ?_⟩
        simp
        intro q
        have e1 := find_apart (okL_apart hok) h
        have e2 := find_apart (okL_apart hok) hp
        rw [q, e2] at e1
        exact e (by simpa using e1.symm)
  have hpos : ∀ x, x ∈ l → 0 ≤ x.c := fun x hx => (hok.2 x hx).1
  have hs2 : (insP (remP l p.c) p).Pairwise (fun x y => x.c < y.c) := by
    rw [insP_rec]
    exact Rs.insr_sorted (hok.rem p.c).1 (Rs.remP_no l p.c)
  refine ext_key (fun x => x.c.toNat) (List.Pairwise.imp_of_mem (fun {x y} hx hy h => ?_) hs2) (List.Pairwise.imp_of_mem (fun {x y} hx hy h => ?_) hs) hmem
  · have := hpos x ((hmem x).1 hx); have := hpos y ((hmem y).1 hy); omega
  · have := hpos x hx; have := hpos y hy; omega
theorem wide_small : Sc.SmallC (wideL 8) ∧ Sc.SmallQ [] := by
  refine ⟨⟨by decide, fun c hc => ?_⟩, by decide, fun c hc => by simp at hc⟩
  obtain ⟨j, hj, rfl⟩ := List.mem_map.1 hc
  have hj : j < 8 := by simpa using hj
  have : j = 0 ∨ j = 1 ∨ j = 2 ∨ j = 3 ∨ j = 4 ∨ j = 5 ∨ j = 6 ∨ j = 7 := by omega
  rcases this with rfl | rfl | rfl | rfl | rfl | rfl | rfl | rfl <;> decide
theorem aw_new {W1 w : World} {sb : Nat} {s : SD} (h : ∃ c, Sto none W1.heap.size w sb c s ∧ c.t = 0 ∧ Below W1.heap.size W1 w) : Aw W1 sb s 0 [] w := by
  obtain ⟨c, q1, q2, q3⟩ := h
  exact ⟨⟨c, q1, by omega, fun x hx => by simp at hx⟩, q3⟩
theorem aw_match2 {W1 w : World} {sb : Nat} {s : SD} {t : Nat} {fr : List (Nat × Obj)} (h : Aw W1 sb s t fr w) (a b : Nat) (ha : a < 4294967296) (hb : b < 4294967296) :
    Calls Tryz.prog 30 #[.pointer (some ⟨sb, 0, none⟩), .int .u32 (a : Int), .int .u32 (b : Int)] w fun e w' => ∃ va vc, e = .returned (.slice va (matched s a b).length vc) ∧ Ents w.heap.size w' (.slice va (matched s a b).length vc) (matched s a b) ∧ Aw W1 sb s t fr w' := by
  obtain ⟨c, e1, e2, e3⟩ := h.ex
  refine (smatch_any e1 a b ha hb).mono ?_
  rintro e w' ⟨v, rfl, q1, q2⟩
  obtain ⟨va, vc, rfl⟩ := Ents.slice q1
  exact ⟨va, vc, rfl, q1, h.later q2⟩
/-- One more is spawned, with the parts of a law. -/
theorem aw_next {W1 w w' : World} {sb : Nat} {s : SD} {t n i : Nat} {L : Nat → List Prt} {fr : List (Nat × Obj)} {Ad : Nat → Addr} (h : Aw W1 sb s t fr w) (hE : Env8 W1 Ad) (ht : t ≤ 900) (hR : Run n i L s) (hi : i < n) {v : Value} {m : Nat} {x : Int} (hL : L i = lawL m x 8) (hv : Prts w.heap.size w' v (lawL m x 8)) (hb : Below w.heap.size w w') :
    Calls Tryz.prog 16 #[.pointer (some ⟨sb, 0, none⟩), v] w' fun e w2 => e = .returned (.tuple #[.agg #[.int .i64 (i : Int), .int .i64 1], .nilIface]) ∧ ∃ s', Run n (i + 1) L s' ∧ Aw W1 sb s' (t + 1) fr w2 := by
  have hl := lawL_len m x 8
  refine (aw_spawn2 h hE ht hv hb (by omega) (by rw [hR.ws]; exact law_chk m x) (law_tick m x) (hR.split hi) (hR.zero hi)).mono ?_
  rintro e w2 ⟨rfl, q⟩
  rw [law_sort, ← hL] at q
  exact ⟨rfl, _, hR.step hi, q⟩
end Go.Proofs.YtagjmggiaffihaaGreatDoor.So
namespace Go.Proofs.YtagjmggiaffihaaGreatDoor
open Go.ChangeShapes Go.WideShapes Go.ChangeAt Go.RowKit
open Go.Proofs.YtagjmggiaffihaaGreatDoor.So (MRow)
theorem door_met8 (os : Os) (args : Array Value) : laidMetH Tryz.prog Rows.storeFullRow.laid ((World.doorLaid Tryz.prog 366 os).forCall (fun _ _ => 0) ⟨#[], args, []⟩).memory :=
  laidMetH_of_parts3 (fuel := 8) (laidMet_of_run' 8 (by kernel_rfl) (by kernel_rfl)) (by kernel_rfl) (by kernel_rfl)
theorem Tryz.own : ownKnob Tryz.prog.godebug = none := by kernel_rfl
theorem Tryz.laidOut : laidOutB Tryz.prog = true := by kernel_rfl
def ad8 (a1 a2 a4 a6 a7 a9 a10 a17 : Addr) (k : Nat) : Addr := if k = 1 then a1 else if k = 2 then a2 else if k = 4 then a4 else if k = 6 then a6 else if k = 7 then a7 else if k = 9 then a9 else if k = 10 then a10 else a17
theorem env8_of {W : World} (h : laidMetH Tryz.prog Rows.storeFullRow.laid W) : ∃ Ad, Env8 W Ad := by
  rw [MakeChecks.laidMetH_plain _ _ _ (by kernel_rfl)] at h
  have h0 : laidMet Tryz.prog [("math/bits.deBruijn32tab", Rows.laid_math_bits_deBruijn32tab), ("math/bits.deBruijn64tab", Rows.laid_math_bits_deBruijn64tab), ("internal/strconv.uint64pow10", Rows.laid_internal_strconv_uint64pow10), ("pasodoble/api.ErrArg", Rows.laid_pasodoble_api_ErrArg), ("pasodoble/api.ErrNil", Rows.laid_pasodoble_api_ErrNil), ("pasodoble/api.ErrLong", Rows.laid_pasodoble_api_ErrLong), ("pasodoble/api.ErrFull", Rows.laid_pasodoble_api_ErrFull), ("pasodoble/api.ErrNone", Rows.laid_pasodoble_api_ErrNone), ("pasodoble/api.ErrTwice", Rows.laid_pasodoble_api_ErrTwice), ("pasodoble/api.ErrName", Rows.laid_pasodoble_api_ErrName), ("pasodoble/api.ErrDead", Rows.laid_pasodoble_api_ErrDead)] W := h
  have h' := h0.tail.tail.tail
  obtain ⟨⟨a1, h1⟩, a2, h2⟩ := two_of h' kl_g1 kl_t1 kl_g2 kl_t2
  obtain ⟨⟨a4, h4⟩, a6, h6⟩ := two_of h'.tail.tail kl_g4 kl_t4 kl_g6 kl_t6
  obtain ⟨⟨a7, h7⟩, a9, h9⟩ := two_of h'.tail.tail.tail.tail kl_g7 kl_t7 kl_g9 kl_t9
  obtain ⟨⟨a10, h10⟩, a17, h17⟩ := two_of h'.tail.tail.tail.tail.tail.tail kl_g10 kl_t10 kl_g17 kl_t17
  have F : ∀ k ∈ eight, OneK W (gv k) (txs.getD (k - 1) []) (ad8 a1 a2 a4 a6 a7 a9 a10 a17 k) := by
    intro k hk
    simp only [eight, List.mem_cons, List.not_mem_nil, or_false] at hk
    rcases hk with rfl | rfl | rfl | rfl | rfl | rfl | rfl | rfl
    all_goals first | exact h1 | exact h2 | exact h4 | exact h6 | exact h7 | exact h9 | exact h10 | exact h17
  refine ⟨ad8 a1 a2 a4 a6 a7 a9 a10 a17, fun k h1 _ => (F k h1).1, fun k h1 _ => (F k h1).2.1, fun i j hi hj e => ?_⟩
  obtain ⟨si, ci, ti⟩ := (F i hi).2.2
  obtain ⟨sj, cj, tj⟩ := (F j hj).2.2
  rw [e, cj] at ci
  have es : sj = si := by simpa using ci
  subst es
  have b1 := eight_le i hi
  have b2 := eight_le j hj
  have := txs_inj (i - 1) (by omega) (j - 1) (by omega) (ti.symm.trans tj)
  omega
theorem cells33 : Tryz.prog.cellsOf 49 = 1 := by kernel_rfl
theorem u32_of {x : Int} (h : (Lit.int .u32 x).wf = true) : ∃ m : Nat, x = (m : Int) ∧ m < 4294967296 := by
  unfold Lit.wf at h
  simp [IntKind.min, IntKind.max, IntKind.signed, IntKind.bits] at h
  exact ⟨x.toNat, by omega, by omega⟩
set_option maxRecDepth 100000 in
/-- A row of sets, out of its reading. -/
theorem masks_of {H : Type} {enc : TypeId × Value → H} {W : World} {v : Value} {d : DataW H} {ps : List MemPlace} (h : DataW.Trod enc Tryz.prog W 0 (fun _ => true) true 79 v d ps) (hv : ∃ a l c, v = .slice a l c) :
    ∃ ts, MRow W v ts := by
  obtain ⟨fuel, hf⟩ := h
  obtain ⟨a0, l0, c0, rfl⟩ := hv
  rcases Deep.open_slice Tryz.underlying79 hf with ⟨h1, h2⟩ | ⟨a, len, cap, m, n, D, Pl, h1, _, hl, _, hm, hx, hel⟩
  · simp [Value.cells] at h1
    obtain ⟨rfl, rfl, rfl⟩ := h1
    exact ⟨[], by simp, none, 0, rfl, .inl rfl⟩
  · simp [Value.cells] at h1
    obtain ⟨rfl, rfl, rfl⟩ := h1
    simp only [if_true] at hm
    subst hm
    rw [cells33] at hel
    obtain ⟨X, hX⟩ := Deep.choose_lt (α := Nat) (n := l0) (p := fun i q => W.cells? 0 (a.add (i * 1)) 1 = some [.int .u32 (q : Int)] ∧ q < 4294967296) (fun i hi => by
      obtain ⟨cs', hc1, hc2⟩ := hel i (by omega)
      obtain ⟨y, e, _, hw⟩ := DataW.trod_int Tryz.underlying49 hc2
      obtain ⟨q, rfl, hq⟩ := u32_of hw
      subst e
      exact ⟨q, hc1, hq⟩)
    refine ⟨(List.range l0).map X, fun x hx => ?_, some a, m, by simp, ?_⟩
    · obtain ⟨j, hj, rfl⟩ := List.mem_map.1 hx
      exact (hX j (by simpa using hj)).2
    by_cases h0 : l0 = 0
    · left; subst h0; rfl
    · right
      obtain ⟨b, o, spot⟩ := a
      have hspot : spot = none := by
        have h5 := (World.cells?_some (hX 0 (by omega)).1).2.2 0 (by decide)
        have h6 : W.cell? ((⟨b, o, spot⟩ : Addr)) = some (.int .u32 (X 0 : Int)) := by simpa [Addr.add] using h5
        exact World.cell?_spot h6
      subst hspot
      refine ⟨b, o, rfl, fun j x hj => ?_⟩
      have hjl : j < l0 := by
        have := (List.getElem?_eq_some_iff.1 hj).1
        simpa using this
      have hxe : x = X j := by simpa [hjl] using hj.symm
      subst hxe
      have h5 := (World.cells?_some (hX j hjl).1).2.2
      have e0 := h5 0 (by decide)
      rw [Deep.add_add, Co.add_at2] at e0
      simpa using e0
end Go.Proofs.YtagjmggiaffihaaGreatDoor
namespace Go.Proofs.YtagjmggiaffihaaGreatDoor
open Go.ChangeShapes Go.WideShapes Go.ChangeAt Go.RowKit
open Go.Proofs.YtagjmggiaffihaaGreatDoor.Co (I64)
theorem zq3 : Tryz.prog.cellsOf 3 = 1 := by kernel_rfl
theorem zq45 : Tryz.prog.cellsOf 45 = 4 := by kernel_rfl
theorem zq43 : Tryz.prog.cellsOf 43 = 2 := by kernel_rfl
theorem zq47 : Tryz.prog.cellsOf 47 = 6 := by kernel_rfl
theorem zq51 : Tryz.prog.cellsOf 51 = 16 := by kernel_rfl
theorem arr4_of {H : Type} {enc : TypeId × Value → H} {W : World} {fuel : Nat} {cs : List Value} {x : DataW H × List MemPlace} (h : DataW.trod enc Tryz.prog W 0 (fun _ => true) true fuel 45 cs = some x) : ∃ d0 d1 d2 d3 : Int, cs = [.int .i64 d0, .int .i64 d1, .int .i64 d2, .int .i64 d3] := by
  obtain ⟨xs, m, _, _, hl, hx, hf⟩ := DataW.trod_array Tryz.underlying45 h
  rw [zq45] at hl
  simp only [zq3] at hf
  match cs, hl with
  | [c0, c1, c2, c3], _ =>
    have G : ∀ (i : Nat) (c : Value), i < 4 → ([c0, c1, c2, c3].drop (i * 1)).take 1 = [c] → ∃ n : Int, c = .int .i64 n := by
      intro i c hi he
      have h2 := hf i hi
      rw [he] at h2
      obtain ⟨y, hy⟩ : ∃ y, xs[i]? = some y := ⟨xs[i]'(by omega), List.getElem?_eq_getElem _⟩
      rw [hy] at h2
      obtain ⟨n, e, _, _⟩ := DataW.trod_int Tryz.underlying3 h2
      exact ⟨n, by simpa using e⟩
    obtain ⟨d0, e0⟩ := G 0 c0 (by decide) rfl
    obtain ⟨d1, e1⟩ := G 1 c1 (by decide) rfl
    obtain ⟨d2, e2⟩ := G 2 c2 (by decide) rfl
    obtain ⟨d3, e3⟩ := G 3 c3 (by decide) rfl
    exact ⟨d0, d1, d2, d3, by rw [e0, e1, e2, e3]⟩
set_option maxRecDepth 100000 in
theorem part6_of {H : Type} {enc : TypeId × Value → H} {W : World} {fuel : Nat} {cs : List Value} {x : DataW H × List MemPlace} (h : DataW.trod enc Tryz.prog W 0 (fun _ => true) true fuel 47 cs = some x) :
    ∃ k d0 d1 d2 d3 t : Int, cs = [.int .i64 k, .int .i64 d0, .int .i64 d1, .int .i64 d2, .int .i64 d3, .int .i64 t] ∧ I64 k ∧ I64 t := by
  obtain ⟨xs, n, _, _, hl, hx, hf⟩ := DataW.trod_struct Tryz.underlying47 h
  rw [zq47] at hl
  match cs, hl with
  | [c0, c1, c2, c3, c4, c5], _ =>
    have f0 := hf 0 _ rfl
    have f1 := hf 1 _ rfl
    have f2 := hf 2 _ rfl
    obtain ⟨x0, h0⟩ : ∃ x0, xs[0]? = some x0 := ⟨xs[0]'(by rw [hx]; decide), List.getElem?_eq_getElem _⟩
    obtain ⟨x1, h1⟩ : ∃ x1, xs[1]? = some x1 := ⟨xs[1]'(by rw [hx]; decide), List.getElem?_eq_getElem _⟩
    obtain ⟨x2, h2⟩ : ∃ x2, xs[2]? = some x2 := ⟨xs[2]'(by rw [hx]; decide), List.getElem?_eq_getElem _⟩
    have g0 : DataW.trod enc Tryz.prog W 0 (fun _ => true) true n 3 [c0] = some x0 := by rw [← h0, ← f0]; rfl
    have g1 : DataW.trod enc Tryz.prog W 0 (fun _ => true) true n 45 [c1, c2, c3, c4] = some x1 := by rw [← h1, ← f1]; rfl
    have g2 : DataW.trod enc Tryz.prog W 0 (fun _ => true) true n 3 [c5] = some x2 := by rw [← h2, ← f2]; rfl
    obtain ⟨k, e0, _, w0⟩ := DataW.trod_int Tryz.underlying3 g0
    obtain ⟨d0, d1, d2, d3, e1⟩ := arr4_of g1
    obtain ⟨t, e2, _, w2⟩ := DataW.trod_int Tryz.underlying3 g2
    simp at e0 e1 e2
    obtain ⟨rfl, rfl, rfl, rfl⟩ := e1
    exact ⟨k, _, _, _, _, t, by rw [e0, e2], w0, w2⟩
set_option maxRecDepth 100000 in
theorem ent2_of {H : Type} {enc : TypeId × Value → H} {W : World} {fuel : Nat} {cs : List Value} {x : DataW H × List MemPlace} (h : DataW.trod enc Tryz.prog W 0 (fun _ => true) true fuel 43 cs = some x) :
    ∃ i g : Int, cs = [.int .i64 i, .int .i64 g] ∧ I64 i ∧ I64 g := by
  obtain ⟨xs, n, _, _, hl, hx, hf⟩ := DataW.trod_struct Tryz.underlying43 h
  rw [zq43] at hl
  match cs, hl with
  | [c0, c1], _ =>
    have f0 := hf 0 _ rfl
    have f1 := hf 1 _ rfl
    obtain ⟨x0, h0⟩ : ∃ x0, xs[0]? = some x0 := ⟨xs[0]'(by rw [hx]; decide), List.getElem?_eq_getElem _⟩
    obtain ⟨x1, h1⟩ : ∃ x1, xs[1]? = some x1 := ⟨xs[1]'(by rw [hx]; decide), List.getElem?_eq_getElem _⟩
    have g0 : DataW.trod enc Tryz.prog W 0 (fun _ => true) true n 3 [c0] = some x0 := by rw [← h0, ← f0]; rfl
    have g1 : DataW.trod enc Tryz.prog W 0 (fun _ => true) true n 3 [c1] = some x1 := by rw [← h1, ← f1]; rfl
    obtain ⟨i, e0, _, w0⟩ := DataW.trod_int Tryz.underlying3 g0
    obtain ⟨g, e1, _, w1⟩ := DataW.trod_int Tryz.underlying3 g1
    simp at e0 e1
    exact ⟨i, g, by rw [e0, e1], w0, w1⟩
/-- A call that came in. -/
structure ActI where
  kind : Int
  n : Int
  ei : Int
  eg : Int
  sa : Option Addr
  sl : Nat
  sc : Nat
  pc : Int
  p0 : Int
  p1 : Int
  p2 : Int
  p3 : Int
  pt : Int
  comp : Int
  cell : Int
  value : Int
  m : Int
  w : Int
def ActI.zero : ActI := ⟨0, 0, 0, 0, none, 0, 0, 0, 0, 0, 0, 0, 0, 0, 0, 0, 0, 0⟩
def ActI.arr (x : ActI) : Array Value := #[.int .i64 x.kind, .int .i64 x.n, .int .i64 x.ei, .int .i64 x.eg, .slice x.sa x.sl x.sc, .int .i64 x.pc, .int .i64 x.p0, .int .i64 x.p1, .int .i64 x.p2, .int .i64 x.p3, .int .i64 x.pt, .int .i64 x.comp, .int .i64 x.cell, .int .i64 x.value, .int .u32 x.m, .int .u32 x.w]
set_option maxRecDepth 100000 in
theorem act_of {H : Type} {enc : TypeId × Value → H} {W : World} {fuel : Nat} {cs : List Value} {x : DataW H × List MemPlace} (h : DataW.trod enc Tryz.prog W 0 (fun _ => true) true fuel 51 cs = some x) :
    ∃ y : ActI, cs = y.arr.toList := by
  obtain ⟨xs, n, _, _, hl, hx, hf⟩ := DataW.trod_struct Tryz.underlying51 h
  rw [zq51] at hl
  match cs, hl with
  | [c0, c1, c2, c3, c4, c5, c6, c7, c8, c9, c10, c11, c12, c13, c14, c15], _ =>
    have f0 := hf 0 _ rfl
    have f1 := hf 1 _ rfl
    have f2 := hf 2 _ rfl
    have f3 := hf 3 _ rfl
    have f4 := hf 4 _ rfl
    have f5 := hf 5 _ rfl
    have f6 := hf 6 _ rfl
    have f7 := hf 7 _ rfl
    have f8 := hf 8 _ rfl
    have f9 := hf 9 _ rfl
    obtain ⟨x0, h0⟩ : ∃ x0, xs[0]? = some x0 := ⟨xs[0]'(by rw [hx]; decide), List.getElem?_eq_getElem _⟩
    obtain ⟨x1, h1⟩ : ∃ x1, xs[1]? = some x1 := ⟨xs[1]'(by rw [hx]; decide), List.getElem?_eq_getElem _⟩
    obtain ⟨x2, h2⟩ : ∃ x2, xs[2]? = some x2 := ⟨xs[2]'(by rw [hx]; decide), List.getElem?_eq_getElem _⟩
    obtain ⟨x3, h3⟩ : ∃ x3, xs[3]? = some x3 := ⟨xs[3]'(by rw [hx]; decide), List.getElem?_eq_getElem _⟩
    obtain ⟨x4, h4⟩ : ∃ x4, xs[4]? = some x4 := ⟨xs[4]'(by rw [hx]; decide), List.getElem?_eq_getElem _⟩
    obtain ⟨x5, h5⟩ : ∃ x5, xs[5]? = some x5 := ⟨xs[5]'(by rw [hx]; decide), List.getElem?_eq_getElem _⟩
    obtain ⟨x6, h6⟩ : ∃ x6, xs[6]? = some x6 := ⟨xs[6]'(by rw [hx]; decide), List.getElem?_eq_getElem _⟩
    obtain ⟨x7, h7⟩ : ∃ x7, xs[7]? = some x7 := ⟨xs[7]'(by rw [hx]; decide), List.getElem?_eq_getElem _⟩
    obtain ⟨x8, h8⟩ : ∃ x8, xs[8]? = some x8 := ⟨xs[8]'(by rw [hx]; decide), List.getElem?_eq_getElem _⟩
    obtain ⟨x9, h9⟩ : ∃ x9, xs[9]? = some x9 := ⟨xs[9]'(by rw [hx]; decide), List.getElem?_eq_getElem _⟩
    have g0 : DataW.trod enc Tryz.prog W 0 (fun _ => true) true n 3 [c0] = some x0 := by rw [← h0, ← f0]; rfl
    have g1 : DataW.trod enc Tryz.prog W 0 (fun _ => true) true n 3 [c1] = some x1 := by rw [← h1, ← f1]; rfl
    have g2 : DataW.trod enc Tryz.prog W 0 (fun _ => true) true n 43 [c2, c3] = some x2 := by rw [← h2, ← f2]; rfl
    have g3 : DataW.trod enc Tryz.prog W 0 (fun _ => true) true n 44 [c4] = some x3 := by rw [← h3, ← f3]; rfl
    have g4 : DataW.trod enc Tryz.prog W 0 (fun _ => true) true n 47 [c5, c6, c7, c8, c9, c10] = some x4 := by rw [← h4, ← f4]; rfl
    have g5 : DataW.trod enc Tryz.prog W 0 (fun _ => true) true n 3 [c11] = some x5 := by rw [← h5, ← f5]; rfl
    have g6 : DataW.trod enc Tryz.prog W 0 (fun _ => true) true n 3 [c12] = some x6 := by rw [← h6, ← f6]; rfl
    have g7 : DataW.trod enc Tryz.prog W 0 (fun _ => true) true n 3 [c13] = some x7 := by rw [← h7, ← f7]; rfl
    have g8 : DataW.trod enc Tryz.prog W 0 (fun _ => true) true n 49 [c14] = some x8 := by rw [← h8, ← f8]; rfl
    have g9 : DataW.trod enc Tryz.prog W 0 (fun _ => true) true n 49 [c15] = some x9 := by rw [← h9, ← f9]; rfl
    obtain ⟨k, e0, _, _⟩ := DataW.trod_int Tryz.underlying3 g0
    obtain ⟨nn, e1, _, _⟩ := DataW.trod_int Tryz.underlying3 g1
    obtain ⟨cm, e5, _, _⟩ := DataW.trod_int Tryz.underlying3 g5
    obtain ⟨ce, e6, _, _⟩ := DataW.trod_int Tryz.underlying3 g6
    obtain ⟨va, e7, _, _⟩ := DataW.trod_int Tryz.underlying3 g7
    obtain ⟨mm, e8, _, _⟩ := DataW.trod_int Tryz.underlying49 g8
    obtain ⟨ww, e9, _, _⟩ := DataW.trod_int Tryz.underlying49 g9
    obtain ⟨ei, eg, e2, _, _⟩ := ent2_of g2
    obtain ⟨pc, p0, p1, p2, p3, pt, e4, _, _⟩ := part6_of g4
    obtain ⟨sa, sl, sc, e3⟩ : ∃ sa sl sc, c4 = .slice sa sl sc := by
      rcases Deep.open_slice Tryz.underlying44 g3 with ⟨q1, _⟩ | ⟨a, len, cap, _, _, _, _, q1, _⟩
      · exact ⟨none, 0, 0, by simpa using q1⟩
      · exact ⟨some a, len, cap, by simpa using q1⟩
    simp at e0 e1 e2 e4 e5 e6 e7 e8 e9
    obtain ⟨rfl, rfl⟩ := e2
    obtain ⟨rfl, rfl, rfl, rfl, rfl, rfl⟩ := e4
    subst e3
    exact ⟨⟨k, nn, ei, eg, sa, sl, sc, pc, p0, p1, p2, p3, pt, cm, ce, va, mm, ww⟩, by rw [e0, e1, e5, e6, e7, e8, e9]; rfl⟩
/-- The sixteen cells of a call. -/
def Six16 (W : World) (b o : Nat) (x : ActI) : Prop := ∀ i, i < 16 → W.cell? ⟨b, o + i, none⟩ = x.arr[i]?
def ActRow (W : World) (v : Value) (cl : List ActI) : Prop := ∃ a c, v = .slice a cl.length c ∧ (cl = [] ∨ ∃ b o, a = some ⟨b, o, none⟩ ∧ ∀ (j : Nat) x, cl[j]? = some x → Six16 W b (o + j * 16) x)
set_option maxRecDepth 100000 in
theorem acts_of {H : Type} {enc : TypeId × Value → H} {W : World} {v : Value} {d : DataW H} {ps : List MemPlace} (h : DataW.Trod enc Tryz.prog W 0 (fun _ => true) true 26 v d ps) (hv : ∃ a l c, v = .slice a l c) :
    ∃ cl, ActRow W v cl := by
  obtain ⟨fuel, hf⟩ := h
  obtain ⟨a0, l0, c0, rfl⟩ := hv
  rcases Deep.open_slice Tryz.underlying26 hf with ⟨h1, h2⟩ | ⟨a, len, cap, m, n, D, Pl, h1, _, hl, _, hm, hx, hel⟩
  · simp [Value.cells] at h1
    obtain ⟨rfl, rfl, rfl⟩ := h1
    exact ⟨[], none, 0, rfl, .inl rfl⟩
  · simp [Value.cells] at h1
    obtain ⟨rfl, rfl, rfl⟩ := h1
    simp only [if_true] at hm
    subst hm
    rw [zq51] at hel
    haveI : Inhabited ActI := ⟨ActI.zero⟩
    obtain ⟨X, hX⟩ := Deep.choose_lt (α := ActI) (n := l0) (p := fun i q => W.cells? 0 (a.add (i * 16)) 16 = some q.arr.toList) (fun i hi => by
      obtain ⟨cs', hc1, hc2⟩ := hel i (by omega)
      obtain ⟨y, e⟩ := act_of hc2
      subst e
      exact ⟨y, hc1⟩)
    refine ⟨(List.range l0).map X, some a, m, by simp, ?_⟩
    by_cases h0 : l0 = 0
    · left; subst h0; rfl
    · right
      obtain ⟨b, o, spot⟩ := a
      have hspot : spot = none := by
        have h5 := (World.cells?_some (hX 0 (by omega))).2.2 0 (by decide)
        have h6 : W.cell? ((⟨b, o, spot⟩ : Addr)) = some (.int .i64 (X 0).kind) := by simpa [Addr.add, ActI.arr] using h5
        exact World.cell?_spot h6
      subst hspot
      refine ⟨b, o, rfl, fun j x hj => ?_⟩
      have hjl : j < l0 := by
        have := (List.getElem?_eq_some_iff.1 hj).1
        simpa using this
      have hxe : x = X j := by simpa [hjl] using hj.symm
      subst hxe
      have h7 := hX j hjl
      rw [Co.add_at2] at h7
      have h5 := (World.cells?_some h7).2.2
      intro i hi
      have := h5 i hi
      rw [Co.add_at2] at this
      rw [this]
      simp
end Go.Proofs.YtagjmggiaffihaaGreatDoor
namespace Go.Proofs.YtagjmggiaffihaaGreatDoor.So
open Go.RowKit Go.Shelf Go.Maps
open Go.Proofs.YtagjmggiaffihaaGreatDoor.Co (I64 I64_mid Pt)
open Go.Proofs.YtagjmggiaffihaaGreatDoor.At (St bAl cell_blk blk_seen blk_free Err an wi mtB bits_and32 bits_an32)
open Go.Proofs.YtagjmggiaffihaaGreatDoor.Ro (RS Ents)
open Go.Proofs.YtagjmggiaffihaaGreatDoor.Rs (SD mskP Prt Prts PRow okL fitP remP insP)
set_option maxHeartbeats 800000 in
theorem scount_nil (W : World) : Calls Tryz.prog 35 #[.pointer none] W fun e W' => e = .returned (.int .i64 0) ∧ W' = W := by
  go_enter Tryz.func35, Tryz.ntmps35
  go_wp2_with fail
  go_ret
  exact ⟨rfl, rfl⟩
set_option maxHeartbeats 800000 in
theorem stables_nil (W : World) : Calls Tryz.prog 37 #[.pointer none] W fun e W' => e = .returned (.int .i64 0) ∧ W' = W := by
  go_enter Tryz.func37, Tryz.ntmps37
  go_wp2_with fail
  go_ret
  exact ⟨rfl, rfl⟩
set_option maxHeartbeats 800000 in
set_option maxRecDepth 100000 in
theorem salive_nil (W : World) (i g : Int) : Calls Tryz.prog 40 #[.pointer none, .agg #[.int .i64 i, .int .i64 g]] W fun e W' => e = .returned (.bool false) ∧ Below W.heap.size W W' := by
  have b1 := hid (bAl W (.cells #[.int .i64 i, .int .i64 g] 43))
  go_enter Tryz.func40, Tryz.ntmps40
  go_wp2_with fail
  go_quiet (fail)
  go_wp2_with fail
  go_ret
  exact ⟨rfl, by first | exact b1.out | exact b1.out.drew | exact b1.out.trans ((At.drewN_below _ _).mono b1.out.size)⟩
theorem changed_nil (W : World) (a b : Int) : Calls Tryz.prog 32 #[.pointer none, .int .i64 a, .int .i64 b] W fun e W' => e = .returned (.slice none 0 0) ∧ Below W.heap.size W W' := by
  obtain ⟨w1, hw1⟩ : ∃ w1, w1 = (W.alloc (.cells #[.int .i64 a] 3)).alloc (.cells #[.int .i64 b] 3) := ⟨_, rfl⟩
  obtain ⟨b1, -, -⟩ := Rs.two_blk W #[.int .i64 a] #[.int .i64 b] 3 3
  rw [← hw1] at b1
  have GN := hid fun fv => gather_nil fv w1
  have HW1 := hid hw1
  have B1 := hid b1
  clear hw1 b1
  go_enter Tryz.func32, Tryz.ntmps32
  go_upto_region 1 with fail
  rw [← HW1.out]
  go_wp2_with fail
  refine (GN.out _).mono ?_
  rintro e w2 ⟨rfl, hq⟩
  obtain rfl := hq.symm
  go_wp2_with fail
  go_ret
  exact ⟨rfl, B1.out⟩
theorem e6 {w : World} {Ad : Nat → Addr} (h : Env8 w Ad) : w.cell? ⟨3, 0, none⟩ = some (.iface 278 (.pointer (some (Ad 6)))) := h.cell 6 (by decide) (by decide)
def ents (k : Nat) : List (Nat × Nat) := (List.range k).map fun j => (j, 1)
theorem ents_succ (k : Nat) : ents (k + 1) = ents k ++ [(k, 1)] := by unfold ents; rw [List.range_succ, List.map_append]; rfl
theorem ents_len (k : Nat) : (ents k).length = k := by simp [ents]
theorem ents_at {k j : Nat} (h : j < k) : (ents k)[j]? = some (j, 1) := by simp [ents, h]
set_option maxHeartbeats 12800000 in
set_option maxRecDepth 100000 in
theorem full_law (w : World) (Ad : Nat → Addr) (hE : Env8 w Ad) (pl : Int) (m : Nat) (hm : m < 4294967296) :
    Calls Tryz.prog 7 #[.int .i64 pl, .int .u32 (m : Int)] w fun e w' => e = .returned (.bool true) ∧ Below w.heap.size w w' := by
  obtain ⟨u, n, hn, hu, hr⟩ := rem_at pl 65 (by decide)
  have hr : u.tmod 65 = (n : Int) := hr
  have hni : (n : Int) ≤ 64 := by omega
  have hnn : n ≤ 64 := by omega
  have AW := hid (awake_any Ad w hE)
  have HE := hid hE
  have ha8 := and8 m hm
  have hn8 := an8 m hm
  obtain ⟨ma, hma⟩ : ∃ ma, ma = m % 256 := ⟨_, rfl⟩
  obtain ⟨mb, hmb⟩ : ∃ mb, mb = an 255 m := ⟨_, rfl⟩
  rw [← hma] at ha8
  rw [← hmb] at hn8
  clear hE hm hma hmb
  go_enter Tryz.func7, Tryz.ntmps7
  go_wp2_with fail
  refine AW.out.mono ?_
  rintro e w1 ⟨rfl, b1⟩
  have B1 := hid b1
  have WD := hid (wide_any w1)
  clear AW b1
  go_wp2_with fail
  refine WD.out.mono ?_
  rintro e w2 ⟨va, rfl, hC, hb2⟩
  have B3 := hid (B1.out.trans (hb2.mono B1.out.size))
  have E3 := hid (HE.out.later B3.out)
  have NW := hid (new_ok Ad w2 va (.slice none 0 0) (wideL 8) [] E3.out hC ⟨none, 0, rfl, Nat.le_refl _, .inl rfl⟩ wide_small.1 wide_small.2 wide_ok ones wide_ws wide_w n hnn)
  clear hC hb2 WD
  go_wp2_with fail
  refine NW.out.mono ?_
  rintro e w3 ⟨sb, rfl, hn3⟩
  have A3 := hid (aw_new hn3)
  have A4 := hid (Ar.new (A3.out.alloc #[] 43) (List.mem_cons_self ..) A3.out.bel.size)
  clear hn3 NW A3 hu hr
  go_wp2_with fail
  go_loopg [8, 9, 10, 11] n (fun gh l i _ _ wr => ∃ k : Nat, k ≤ n ∧ gh = n - k ∧ i = .int .i64 (k : Int) ∧ ∃ s : SD, Hid (Run n k (fun j => lawL ma (j : Int) 8) s) ∧ Hid (Ar w2 sb s k l (ents k) wr))
  case atStart => exact ⟨0, Nat.zero_le _, rfl, rfl, madeS ones n, run_new _ hnn, A4.out⟩
  case round =>
    clear A4
    rename World => wr
    obtain ⟨k, hk, rfl, rfl, s, HR, HA⟩ := hrel
    obtain ⟨fr0, hA0, hcl⟩ := HA.out.open
    have A0 := hid hA0
    have CL := hid hcl
    have HL := hid HA.out.1
    clear hA0 hcl
    by_cases hlt : k < n
    · have hki : (k : Int) < (n : Int) := by omega
      have PC := hid (parts_any wr ma (k : Int))
      have SP := hid (fun v w' (hv : Prts wr.heap.size w' v (lawL ma (k : Int) 8)) (hb : Below wr.heap.size wr w') => aw_next A0.out E3.out (by omega) HR.out hlt rfl hv hb)
      clear HL
      go_wp2_with fail
      refine PC.out.mono ?_
      rintro e w4 ⟨u4, rfl, hu4, hb4⟩
      have SQ := hid (SP.out u4 w4 hu4 hb4)
      clear PC SP hu4 hb4
      go_wp2_with fail
      refine SQ.out.mono ?_
      rintro e w5 ⟨rfl, s', hR5, hA5⟩
      have R5 := hid hR5
      obtain ⟨w6, hw6⟩ : ∃ w6, w6 = w5.alloc (.cells #[.int .i64 (k : Int), .int .i64 1] 43) := ⟨_, rfl⟩
      have A6 := hA5.alloc #[.int .i64 (k : Int), .int .i64 1] 43
      rw [← hw6] at A6
      have HW6 := hid hw6
      have AR := hid (CL.out s' (k + 1) _ _ (fun x hx => List.mem_cons_of_mem _ hx) A6)
      have x0 : w6.cell? ⟨w5.heap.size, 0, none⟩ = some (.int .i64 (k : Int)) := cell_blk (A6.at (List.mem_cons_self ..)) rfl
      have x1 : w6.cell? ⟨w5.heap.size, 1, none⟩ = some (.int .i64 1) := cell_blk (A6.at (List.mem_cons_self ..)) rfl
      have hul : (ents k).length ≤ 1000 := by rw [ents_len]; omega
      have hs6 : w2.heap.size ≤ w6.heap.size := AR.out.2.1.size
      clear SQ hR5 hA5 A6 hw6
      go_upto_region 12 with fail
      rw [← HW6.out]
      go_wp2_with (at_builtin; refine Ro.wpList_ent (g := 1) rfl _ _ rfl AR.out.1 hul hs6 rfl rfl ?_; intro v' w7 ho hst hat)
      go_roundg (n - (k + 1))
      case measure => omega
      case rel => exact ⟨k + 1, by omega, rfl, by go_num, s', R5.out, by rw [ents_succ]; exact AR.out.app ho.out hst.out hat.out⟩
    · have hki : ¬ ((k : Int) < (n : Int)) := by omega
      obtain rfl : k = n := by omega
      have TB := hid (aw_tables A0.out)
      have PC := hid (parts_any wr mb 0)
      have hfree : s.r.free = [] := by rw [HR.out.free]; simp
      have SP : Hid (∀ v w', Prts wr.heap.size w' v (lawL mb 0 8) → Below wr.heap.size wr w' → Calls Tryz.prog 16 #[.pointer (some ⟨sb, 0, none⟩), v] w' fun e w2' => ∃ tt qq, e = .returned (.tuple #[.agg #[.int .i64 0, .int .i64 0], .iface tt qq]) ∧ Er Ad w2' (.iface tt qq) 6 ∧ Aw w2 sb s k fr0 w2') := fun v w' hv hb => by
        have hl := lawL_len mb 0 8
        refine (aw_full (A0.out.later hb) E3.out hv.row (by omega) (by rw [HR.out.ws]; exact law_chk mb 0) hfree).mono ?_
        rintro e w2' ⟨r, rfl, q1, q2⟩
        rcases q1 with ⟨e, -⟩ | ⟨h6, tt, qq, rfl, q1⟩
        · omega
        · exact ⟨tt, qq, rfl, .inr ⟨h6, tt, qq, rfl, q1⟩, q2⟩
      have CNT := hid HR.out.count
      clear hfree hk hlt
      go_wp2_with fail
      refine TB.out.mono ?_
      rintro e w' ⟨rfl, hw'⟩
      obtain rfl := hw'.symm
      go_wp2_with fail
      refine PC.out.mono ?_
      rintro e w4 ⟨u4, rfl, hu4, hb4⟩
      have SQ := hid (SP.out u4 w4 hu4 hb4)
      clear PC SP hu4 hb4 TB
      go_wp2_with fail
      refine SQ.out.mono ?_
      rintro e w5 ⟨t5, q5, rfl, hr5, hA5⟩
      obtain ⟨w6, hw6⟩ : ∃ w6, w6 = w5.alloc (.cells #[.int .i64 0, .int .i64 0] 43) := ⟨_, rfl⟩
      have b6 : Below w5.heap.size w5 w6 := by rw [hw6]; exact bAl _ _
      have HW6 := hid hw6
      have A6 := hid (hA5.later b6)
      have c6 := e6 (A6.out.env E3.out)
      have I6 := hid (is_er2 (A6.out.env E3.out) (hr5.later b6) (by omega) (k := 6) (by decide))
      clear SQ hr5 hA5 hw6 b6
      go_upto_region 17 with fail
      rw [← HW6.out]
      go_wp2_with fail
      refine I6.out.mono ?_
      rintro e w7 ⟨rfl, hb7⟩
      have A7 := hid (A6.out.later hb7)
      have CN : Hid (Calls Tryz.prog 35 #[.pointer (some ⟨sb, 0, none⟩)] w7 fun e w' => e = .returned (.int .i64 (k : Int)) ∧ w' = w7) := by
        have := aw_count A7.out
        rw [CNT.out] at this
        exact this
      have TB := hid (aw_tables A7.out)
      clear I6 hb7 HW6 c6
      go_wp2_with fail
      refine CN.out.mono ?_
      rintro e w' ⟨rfl, hw'⟩
      obtain rfl := hw'.symm
      go_wp2_with fail
      refine TB.out.mono ?_
      rintro e w' ⟨rfl, hw'⟩
      obtain rfl := hw'.symm
      clear CN TB A6 A0
      by_cases h0 : 0 < k
      · have h0i : (0 : Int) < (k : Int) := by omega
        obtain ⟨h, hh⟩ : ∃ h, h = k / 2 := ⟨_, rfl⟩
        have hhk : h < k := by omega
        have hq : (k : Int).tdiv 2 = (h : Int) := by rw [hh]; exact Int.ofNat_tdiv k 2
        have hhi : (h : Int) < (k : Int) := by omega
        have hwr : IntKind.i64.wrap (h : Int) = (h : Int) := Co.wrap_mid (by omega) (by omega)
        obtain ⟨la, lc, rfl⟩ : ∃ la lc, u8 = .slice la (ents k).length lc := Ents.slice HL.out
        have hlen : (ents k).length = k := ents_len k
        have hEv : Hid (∀ fr1 s' t' w', (∀ x ∈ fr0, x ∈ fr1) → Aw w2 sb s' t' fr1 w' → Ents w2.heap.size w' (.slice la (ents k).length lc) (ents k)) := fun fr1 s' t' w' hs ha => (CL.out s' t' w' fr1 hs ha).1
        obtain ⟨gb, rfl, -, -⟩ := Ents.some HL.out (by rw [ents_len]; exact h0)
        have hC : Hid (∀ fr1 s' t' w', (∀ x ∈ fr0, x ∈ fr1) → Aw w2 sb s' t' fr1 w' → w'.cell? ⟨gb, h * 2, none⟩ = some (.int .i64 (h : Int)) ∧ w'.cell? ⟨gb, h * 2 + 1, none⟩ = some (.int .i64 1)) := fun fr1 s' t' w' hs ha => (hEv.out fr1 s' t' w' hs ha).cell (ents_at hhk)
        rw [hlen]
        obtain ⟨x0, x1⟩ := hC.out fr0 s k w7 (fun _ q => q) A7.out
        have hI : I64 (h : Int) := I64_mid (by omega) (by omega)
        have DS := hid (aw_despawn2 A7.out (HR.out.al hhk))
        have HROW := hid (HR.out.row h hhk)
        clear hh hEv
        go_wp2_with fail
        refine DS.out.mono ?_
        rintro e w8 ⟨va, vc, rfl, fr1, hA8, hP8⟩
        have P8 := hid hP8
        have A8 := hid hA8
        obtain ⟨s8, hs8⟩ : ∃ s8 : SD, s8 = { s with r := s.r.freed h } := ⟨_, rfl⟩
        rw [← hs8] at A8
        have hdead : s8.r.aliveB (h : Int) ((1 : Nat) : Int) = false := by
          rw [hs8]
          have := RS.freed_alive (r := s.r) (i := (h : Int)) (g := ((1 : Nat) : Int)) (HR.out.al hhk) (h : Int) ((1 : Nat) : Int)
          rw [if_pos ⟨rfl, rfl⟩] at this
          exact this
        have hws8 : s8.ws = ones := by rw [hs8]; exact HR.out.ws
        have hfr8 : s8.r.free = [] ++ [h] := by rw [hs8]; show s.r.free ++ [h] = _; rw [HR.out.free]; simp
        have hgn8 : s8.r.gens.getD h 0 + 1 = 2 := by rw [hs8]; show s.r.gens.getD h 0 + 1 = 2; rw [List.getD_eq_getElem?_getD, HR.out.gen h hhk, if_pos hhk]; rfl
        have hsub1 : ∀ x ∈ fr0, x ∈ fr1 ++ fr0 := fun x hx => List.mem_append_right _ hx
        obtain ⟨y0, y1⟩ := hC.out (fr1 ++ fr0) s8 k w8 hsub1 A8.out
        have HW8 := hid hws8
        have HF8 := hid hfr8
        have HG8 := hid hgn8
        have HD8 := hid hdead
        have DD := hid (aw_despawn_dead A8.out E3.out hI (I64_mid (by omega) (by omega)) hdead)
        clear DS hA8 hP8 hs8 x0 x1 hws8 hfr8 hgn8 hdead A7
        go_wp2_with fail
        refine DD.out.mono ?_
        rintro e w9 ⟨be, st1, rfl, hA9⟩
        have A9 := hid hA9
        have hsub2 : ∀ x ∈ fr0, x ∈ (be, eBlk Ad 17 st1) :: (fr1 ++ fr0) := fun x hx => List.mem_cons_of_mem _ (hsub1 x hx)
        obtain ⟨z0, z1⟩ := hC.out _ s8 k w9 hsub2 A9.out
        have GD : Hid (Calls Tryz.prog 38 #[.pointer (some ⟨sb, 0, none⟩), .agg #[.int .i64 (h : Int), .int .i64 1], .int .i64 0] w9 fun e w2' => ∃ b str, e = .returned (.tuple #[.agg #[.int .i64 0, .int .i64 0, .int .i64 0, .int .i64 0, .int .i64 0, .int .i64 0], .iface 208 (.pointer (some ⟨b, 0, none⟩))]) ∧ Aw w2 sb s8 k ((b, eBlk Ad 17 str) :: (be, eBlk Ad 17 st1) :: (fr1 ++ fr0)) w2') := aw_get_dead A9.out E3.out hI (I64_mid (by omega) (by omega)) HD8.out 0
        clear DD hA9 y0 y1 A8
        go_wp2_with fail
        refine GD.out.mono ?_
        rintro e w10 ⟨bf, st2, rfl, hA10⟩
        obtain ⟨w11, hw11⟩ : ∃ w11, w11 = w10.alloc (.cells #[.int .i64 0, .int .i64 0, .int .i64 0, .int .i64 0, .int .i64 0, .int .i64 0] 47) := ⟨_, rfl⟩
        have b11 : Below w10.heap.size w10 w11 := by rw [hw11]; exact bAl _ _
        have A11 := hid (hA10.later b11)
        have HW11 := hid hw11
        have SP : Hid (Calls Tryz.prog 16 #[.pointer (some ⟨sb, 0, none⟩), .slice none 0 0] w11 fun e w' => e = .returned (.tuple #[.agg #[.int .i64 (h : Int), .int .i64 2], .nilIface]) ∧ ∃ s', Aw w2 sb s' (k + 1) ((bf, eBlk Ad 17 st2) :: (be, eBlk Ad 17 st1) :: (fr1 ++ fr0)) w') :=
          (aw_spawn2 A11.out E3.out (by omega) (l := []) (v := .slice none 0 0) ⟨rfl, .inl ⟨rfl, rfl⟩⟩ (Below.refl _ _) (by decide) (by rw [HW8.out]; rfl) (fun p hp => by simp at hp) HF8.out HG8.out).mono fun e w' h => ⟨h.1, _, h.2⟩
        clear GD hA10 hw11 b11 z0 z1 A9
        go_upto_region 23 with fail
        rw [← HW11.out]
        go_wp2_with fail
        refine SP.out.mono ?_
        rintro e w12 ⟨rfl, s12, hA12⟩
        obtain ⟨w13, hw13⟩ : ∃ w13, w13 = w12.alloc (.cells #[.int .i64 (h : Int), .int .i64 2] 43) := ⟨_, rfl⟩
        have A13 := hid (hA12.alloc #[.int .i64 (h : Int), .int .i64 2] 43)
        rw [← hw13] at A13
        have HW13 := hid hw13
        have KK : Hid (∀ W', Below w13.heap.size w13 W' → W'.cell? ⟨w12.heap.size, 0, none⟩ = some (.int .i64 (h : Int)) ∧ W'.cell? ⟨w12.heap.size, 1, none⟩ = some (.int .i64 2) ∧ W'.cell? ⟨gb, h * 2, none⟩ = some (.int .i64 (h : Int)) ∧ W'.cell? ⟨gb, h * 2 + 1, none⟩ = some (.int .i64 1) ∧ W'.cell? ⟨4, 0, none⟩ = some (.iface 278 (.pointer (some (Ad 17))))) := fun W' hb => by
          have A' := A13.out.later hb
          obtain ⟨z0, z1⟩ := hC.out _ _ _ _ (fun x hx => List.mem_cons_of_mem _ (List.mem_cons_of_mem _ (hsub2 x hx))) A'
          exact ⟨cell_blk (A'.at (List.mem_cons_self ..)) rfl, cell_blk (A'.at (List.mem_cons_self ..)) rfl, z0, z1, e17 (A'.env E3.out)⟩
        have C46 : Hid (∀ W' (a b : Int), a = (ma : Int) → b = (h : Int) → Below w13.heap.size w13 W' → Calls Tryz.prog 46 #[.int .u32 a, .int .i64 b] W' fun e w' => ∃ u, e = .returned u ∧ PRow w' u (lawL ma (h : Int) 8) ∧ Below w13.heap.size w13 w') := fun W' a b ea eb hb => by
          subst ea eb
          exact (parts_any W' ma (h : Int)).mono fun e w' ⟨u, q1, q2, q3⟩ => ⟨u, q1, q2.row, hb.trans (q3.mono hb.size)⟩
        have C20 : Hid (∀ W' u, PRow W' u (lawL ma (h : Int) 8) → Below w13.heap.size w13 W' → Calls Tryz.prog 20 #[.slice va (s.at h).length vc, u] W' fun e w' => e = .returned (.bool true) ∧ Below w13.heap.size w13 w') := fun W' u hu hb => by
          have A' := A13.out.later hb
          have P' := P8.out _ _ _ _ (fun x hx => List.mem_cons_of_mem _ (List.mem_cons_of_mem _ (List.mem_cons_of_mem _ (List.mem_append_left _ hx)))) A'
          have e : s.at h = lawL ma (h : Int) 8 := HROW.out
          rw [e] at P' ⊢
          have hl := lawL_len ma (h : Int) 8
          exact (Rs.same_any W' _ u _ P' hu (by omega)).mono fun e w' ⟨q1, q2⟩ => ⟨q1, hb.trans (q2.mono hb.size)⟩
        have C13 : Hid (∀ W' b st, (b, eBlk Ad 17 st) ∈ ((w12.heap.size, .cells #[.int .i64 (h : Int), .int .i64 2] 43 (0, 0)) :: (bf, eBlk Ad 17 st2) :: (be, eBlk Ad 17 st1) :: (fr1 ++ fr0)) → Below w13.heap.size w13 W' → Calls Tryz.prog 13 #[.iface 208 (.pointer (some ⟨b, 0, none⟩)), .iface 278 (.pointer (some (Ad 17)))] W' fun e w' => e = .returned (.bool true) ∧ Below w13.heap.size w13 w') := fun W' b st hm hb => by
          have A' := A13.out.later hb
          refine (is_er (A'.env E3.out) (err_blk (A'.at hm) (by omega)) (k := 17) (by decide)).mono ?_
          rintro e w' ⟨rfl, q⟩
          exact ⟨by simp, hb.trans (q.mono hb.size)⟩
        have C13a := hid (fun W' hb => C13.out W' be st1 (List.mem_cons_of_mem _ (List.mem_cons_of_mem _ (List.mem_cons_self ..))) hb)
        have C13b := hid (fun W' hb => C13.out W' bf st2 (List.mem_cons_of_mem _ (List.mem_cons_self ..)) hb)
        have heq : ∀ w, (binOp .eql 43 (.agg #[.int .i64 (h : Int), .int .i64 2]) (.agg #[.int .i64 (h : Int), .int .i64 1])).run Tryz.prog w = .ok (.bool false) w := fun w => by
          have q := Ro.eql_ent (h : Int) 2 (h : Int) 1 hI (I64_mid (by omega) (by omega)) hI (I64_mid (by omega) (by omega)) w
          rw [decide_eq_false (by omega)] at q
          exact q
        clear SP hA12 hw13 A11 C13
        go_upto_region 24 with fail
        rw [← HW13.out]
        go_region_held3 (fun W' => W'.cell? ⟨w12.heap.size, 0, none⟩ = some (.int .i64 (h : Int)) ∧ W'.cell? ⟨w12.heap.size, 1, none⟩ = some (.int .i64 2) ∧ W'.cell? ⟨gb, h * 2, none⟩ = some (.int .i64 (h : Int)) ∧ W'.cell? ⟨gb, h * 2 + 1, none⟩ = some (.int .i64 1) ∧ W'.cell? ⟨4, 0, none⟩ = some (.iface 278 (.pointer (some (Ad 17)))))
          (first | exact KK.out _ (by assumption) | exact KK.out _ (Below.refl _ _).drew | exact KK.out _ (Below.refl _ _))
          (first
            | (go_at_call 46; refine (C46.out _ _ _ (by first | with_reducible rfl | with_reducible exact ha8) (by first | with_reducible rfl | with_reducible exact hwr | with_reducible exact hq) (by first | assumption | exact (Below.refl _ _).drew)).mono ?_; rintro e w14 ⟨u14, rfl, hu14, hb14⟩)
            | (go_at_call 20; refine (C20.out _ _ hu14 (by assumption)).mono ?_; rintro e w15 ⟨rfl, hb15⟩)
            | (go_at_call_of 13 (Value.iface 208 (.pointer (some ⟨be, 0, none⟩))); refine (C13a.out _ (by assumption)).mono ?_; rintro e w16 ⟨rfl, hb16⟩)
            | (go_at_call 13; refine (C13b.out _ (by assumption)).mono ?_; rintro e w17 ⟨rfl, hb17⟩))
        have HX := hid (A13.out.later hb17)
        have EN := hid (HX.out.env E3.out)
        have SN := hid (spawn_nil Ad w17 EN.out (.slice none 0 0))
        have BX := hid (B3.out.trans (HX.out.bel.mono B3.out.size))
        clear KK C46 C20 C13a C13b heq A13
        go_wp2_with fail
        refine SN.out.mono ?_
        rintro e w21 ⟨r1, rfl, hr1, hb21⟩
        obtain ⟨t1, q1, rfl⟩ : ∃ tt qq, r1 = .iface tt qq := by
          rcases hr1 with ⟨e, -⟩ | ⟨-, tt, qq, rfl, -⟩
          · omega
          · exact ⟨tt, qq, rfl⟩
        have B21 := hid hb21
        obtain ⟨w22, hw22⟩ : ∃ w22, w22 = w21.alloc (.cells #[.int .i64 0, .int .i64 0] 43) := ⟨_, rfl⟩
        have b22 : Below w21.heap.size w21 w22 := by rw [hw22]; exact bAl _ _
        have R1 := hid (hr1.later b22)
        have B22 := hid (hb21.trans (b22.mono hb21.size))
        have HW22 := hid hw22
        have PN := hid (parts_err (nofind_nil Ad w22 (EN.out.later B22.out) 0 0) (by omega))
        clear SN hr1 hb21 hw22 b22
        go_upto_region 28 with fail
        rw [← HW22.out]
        go_wp2_with fail
        refine PN.out.mono ?_
        rintro e w23 ⟨r2, rfl, hr2, hb23⟩
        obtain ⟨t2, q2, rfl⟩ : ∃ tt qq, r2 = .iface tt qq := by
          rcases hr2 with ⟨e, -⟩ | ⟨-, tt, qq, rfl, -⟩
          · omega
          · exact ⟨tt, qq, rfl⟩
        have B23 := hid (B22.out.trans (hb23.mono B22.out.size))
        have c2 := e2 (EN.out.later B23.out)
        have I1 := hid (is_er2 (EN.out.later B23.out) (R1.out.later hb23) (by omega) (k := 2) (by decide))
        have R2 := hid hr2
        clear PN hr2 hb23 R1 HW22
        go_wp2_with fail
        refine I1.out.mono ?_
        rintro e w24 ⟨rfl, hb24⟩
        have B24 := hid (B23.out.trans (hb24.mono B23.out.size))
        have c2 := e2 (EN.out.later B24.out)
        have I2 := hid (is_er2 (EN.out.later B24.out) (R2.out.later hb24) (by omega) (k := 2) (by decide))
        have AN := hid (fun W' => salive_nil W' 0 0)
        have MN := hid (fun W' => smatch_nil 0 0 W')
        have CN := hid (fun W' => changed_nil W' 0 0)
        clear I1 hb24
        go_wp2_with fail
        refine I2.out.mono ?_
        rintro e w25 ⟨rfl, hb25⟩
        have B25 := hid (B24.out.trans (hb25.mono B24.out.size))
        clear I2 hb25 c2
        go_wp2_with fail
        refine (AN.out _).mono ?_
        rintro e w26 ⟨rfl, hb26⟩
        have B26 := hid (B25.out.trans (hb26.mono B25.out.size))
        clear hb26
        go_wp2_with fail
        refine (scount_nil _).mono ?_
        rintro e w27 ⟨rfl, hw27⟩
        obtain rfl := hw27.symm
        go_wp2_with fail
        refine (stables_nil _).mono ?_
        rintro e w28 ⟨rfl, hw28⟩
        obtain rfl := hw28.symm
        go_wp2_with fail
        refine (MN.out _).mono ?_
        rintro e w29 ⟨rfl, hb29⟩
        have B29 := hid (B26.out.trans (hb29.mono B26.out.size))
        clear hb29
        go_wp2_with fail
        refine (CN.out _).mono ?_
        rintro e w30 ⟨rfl, hb30⟩
        have BF := hid (BX.out.trans ((B29.out.trans (hb30.mono B29.out.size)).mono BX.out.size))
        clear hb30
        go_wp2_with fail
        go_ret
        exact ⟨rfl, BF.out⟩
      · have h0i : ¬ (0 : Int) < (k : Int) := by omega
        have HX := A7
        have EN := hid (HX.out.env E3.out)
        have SN := hid (spawn_nil Ad w7 EN.out (.slice none 0 0))
        have BX := hid (B3.out.trans (HX.out.bel.mono B3.out.size))
        clear A7
        go_wp2_with fail
        refine SN.out.mono ?_
        rintro e w21 ⟨r1, rfl, hr1, hb21⟩
        obtain ⟨t1, q1, rfl⟩ : ∃ tt qq, r1 = .iface tt qq := by
          rcases hr1 with ⟨e, -⟩ | ⟨-, tt, qq, rfl, -⟩
          · omega
          · exact ⟨tt, qq, rfl⟩
        have B21 := hid hb21
        obtain ⟨w22, hw22⟩ : ∃ w22, w22 = w21.alloc (.cells #[.int .i64 0, .int .i64 0] 43) := ⟨_, rfl⟩
        have b22 : Below w21.heap.size w21 w22 := by rw [hw22]; exact bAl _ _
        have R1 := hid (hr1.later b22)
        have B22 := hid (hb21.trans (b22.mono hb21.size))
        have HW22 := hid hw22
        have PN := hid (parts_err (nofind_nil Ad w22 (EN.out.later B22.out) 0 0) (by omega))
        clear SN hr1 hb21 hw22 b22
        go_upto_region 28 with fail
        rw [← HW22.out]
        go_wp2_with fail
        refine PN.out.mono ?_
        rintro e w23 ⟨r2, rfl, hr2, hb23⟩
        obtain ⟨t2, q2, rfl⟩ : ∃ tt qq, r2 = .iface tt qq := by
          rcases hr2 with ⟨e, -⟩ | ⟨-, tt, qq, rfl, -⟩
          · omega
          · exact ⟨tt, qq, rfl⟩
        have B23 := hid (B22.out.trans (hb23.mono B22.out.size))
        have c2 := e2 (EN.out.later B23.out)
        have I1 := hid (is_er2 (EN.out.later B23.out) (R1.out.later hb23) (by omega) (k := 2) (by decide))
        have R2 := hid hr2
        clear PN hr2 hb23 R1 HW22
        go_wp2_with fail
        refine I1.out.mono ?_
        rintro e w24 ⟨rfl, hb24⟩
        have B24 := hid (B23.out.trans (hb24.mono B23.out.size))
        have c2 := e2 (EN.out.later B24.out)
        have I2 := hid (is_er2 (EN.out.later B24.out) (R2.out.later hb24) (by omega) (k := 2) (by decide))
        have AN := hid (fun W' => salive_nil W' 0 0)
        have MN := hid (fun W' => smatch_nil 0 0 W')
        have CN := hid (fun W' => changed_nil W' 0 0)
        clear I1 hb24
        go_wp2_with fail
        refine I2.out.mono ?_
        rintro e w25 ⟨rfl, hb25⟩
        have B25 := hid (B24.out.trans (hb25.mono B24.out.size))
        clear I2 hb25 c2
        go_wp2_with fail
        refine (AN.out _).mono ?_
        rintro e w26 ⟨rfl, hb26⟩
        have B26 := hid (B25.out.trans (hb26.mono B25.out.size))
        clear hb26
        go_wp2_with fail
        refine (scount_nil _).mono ?_
        rintro e w27 ⟨rfl, hw27⟩
        obtain rfl := hw27.symm
        go_wp2_with fail
        refine (stables_nil _).mono ?_
        rintro e w28 ⟨rfl, hw28⟩
        obtain rfl := hw28.symm
        go_wp2_with fail
        refine (MN.out _).mono ?_
        rintro e w29 ⟨rfl, hb29⟩
        have B29 := hid (B26.out.trans (hb29.mono B26.out.size))
        clear hb29
        go_wp2_with fail
        refine (CN.out _).mono ?_
        rintro e w30 ⟨rfl, hb30⟩
        have BF := hid (BX.out.trans ((B29.out.trans (hb30.mono B29.out.size)).mono BX.out.size))
        clear hb30
        go_wp2_with fail
        go_ret
        exact ⟨rfl, BF.out⟩
end Go.Proofs.YtagjmggiaffihaaGreatDoor.So
