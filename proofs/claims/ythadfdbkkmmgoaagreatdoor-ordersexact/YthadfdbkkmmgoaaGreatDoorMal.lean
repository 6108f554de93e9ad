/- Texts in one. -/
import Derived.BigQuiet
import Derived.Test.YthadfdbkkmmgoaaGreatDoorMak
namespace Go.Proofs.YthadfdbkkmmgoaaGreatDoor.Wo
open Go.RowKit Go.Shelf Go.Maps
open Go.Proofs.YthadfdbkkmmgoaaGreatDoor.At (St bAl cell_blk blk_seen blk_free Err)
open Go.Proofs.YthadfdbkkmmgoaaGreatDoor.Rs (SD Prt Prts PRow fitP remP insP ix okL)
open Go.Proofs.YthadfdbkkmmgoaaGreatDoor.So (Sto CV Gw Er al rowed entered setQ sortP chkL putP)
open Go.Proofs.YthadfdbkkmmgoaaGreatDoor.Co (I64)
theorem ix_some {l : List Prt} {comp : Int} {q : Prt} (hq : l[ix l comp]? = some q) : q ∈ l ∧ q.c = comp := by
  have h := (List.getElem?_eq_some_iff.1 hq)
  obtain ⟨h1, h2⟩ := h
  have e := List.findIdx_getElem (w := h1) (p := fun (x : Prt) => x.c == comp)
  refine ⟨h2 ▸ List.getElem_mem h1, ?_⟩
  rw [← h2]
  exact eq_of_beq e
theorem ix_none {l : List Prt} {comp : Int} (h : l[ix l comp]? = none) : ∀ x ∈ l, x.c ≠ comp := fun x hx e => by
  have h1 := List.getElem?_eq_none_iff.1 h
  have : ix l comp < l.length := List.findIdx_lt_length_of_exists ⟨x, hx, by simp [e]⟩
  omega
/-- The part of a component. -/
def pick (l : List Prt) (comp : Int) : Option Prt := l[ix l comp]?
theorem pick_some {l : List Prt} {comp : Int} {q : Prt} (hq : pick l comp = some q) : q ∈ l ∧ q.c = comp := ix_some hq
theorem pick_none {l : List Prt} {comp : Int} (h : pick l comp = none) : ∀ x ∈ l, x.c ≠ comp := ix_none h
/-- What a call leaves: other blocks of the store, others as they were. -/
def Go1 (B : Nat) (G : Own) (W W' : World) (sb : Nat) (s' : SD) (t' : Nat) : Prop := ∃ G', Up (· = 1) G G' W W' ∧ Fin B G' W' ∧ Ps B G' W' sb s' t'
section
variable {B : Nat} {G : Own} {W W' : World} {sb : Nat} {s : SD} {t i g : Nat} {Ad : Nat → Addr}
theorem Ps.same (h : Ps B G W sb s t) (hb : Below W.heap.size W W') : Ps B G W' sb s t := by
  obtain ⟨c, h1, h2, h3⟩ := h
  exact ⟨c, h1.later hb, h2, h3⟩
theorem Fin.later (hf : Fin B G W) (hb : Below W.heap.size W W') : Fin B G W' := fun k q => by have := hf k q; have := hb.size; omega
theorem Go1.stay (h : Ps B G W sb s t) (hf : Fin B G W) (hb : Below W.heap.size W W') : Go1 B G W W' sb s t := ⟨G, Up.later hf hb, hf.later hb, h.same hb⟩
theorem s_count (h : Ps B G W sb s t) : Calls Tryz.prog 61 #[.pointer (some ⟨sb, 0, none⟩)] W fun e W' => e = .returned (.int .i64 (s.r.count : Int)) ∧ W' = W := by
  obtain ⟨c, h1, h2, h3⟩ := h
  exact So.scount_any h1
theorem s_parts (h : Ps B G W sb s t) (ha : al s i g) : Calls Tryz.prog 78 #[.pointer (some ⟨sb, 0, none⟩), .agg #[.int .i64 (i : Int), .int .i64 (g : Int)]] W fun e W' => ∃ v, e = .returned (.tuple #[v, .nilIface]) ∧ Prts W.heap.size W' v (s.at i) ∧ Below W.heap.size W W' := by
  obtain ⟨c, h1, h2, h3⟩ := h
  exact So.parts_ok h1 ha
/-- A row of parts, none of whose blocks is owned. -/
def PFree (G : Own) (W : World) (v : Value) (l : List Prt) : Prop := ∃ a c, v = .slice a l.length c ∧ (l = [] ∨ ∃ b o, a = some ⟨b, o, none⟩ ∧ G b = 0 ∧ ∀ (j : Nat) p, l[j]? = some p → Rs.Six W b (o + j * 6) p)
theorem PFree.row {v : Value} {l : List Prt} (h : PFree G W v l) : PRow W v l := by
  obtain ⟨a, c, h1, h2⟩ := h
  exact ⟨a, c, h1, h2.imp id fun ⟨b, o, q1, _, q3⟩ => ⟨b, o, q1, q3⟩⟩
theorem PFree.of {v : Value} {l : List Prt} (h : PRow W v l) (hb : ∀ b o, (∃ n c, v = .slice (some ⟨b, o, none⟩) n c) → G b = 0) : PFree G W v l := by
  obtain ⟨a, c, h1, h2⟩ := h
  exact ⟨a, c, h1, h2.imp id fun ⟨b, o, q1, q3⟩ => ⟨b, o, q1, hb b o ⟨l.length, c, by rw [h1, q1]⟩, q3⟩⟩
theorem s_spawn_bad (h : Ps B G W sb s t) (hE : Env8 W Ad) {v : Value} {l : List Prt} (hv : PRow W v l) (hl : l.length ≤ 90) (hc : chkL s.ws l ≠ 0) :
    Calls Tryz.prog 116 #[.pointer (some ⟨sb, 0, none⟩), v] W fun e W' => ∃ r, e = .returned (.tuple #[.agg #[.int .i64 0, .int .i64 0], r]) ∧ Er Ad W' r (chkL s.ws l) ∧ Below W.heap.size W W' := by
  obtain ⟨c, h1, h2, h3⟩ := h
  exact So.spawn_bad Ad h1 hE hv hl hc
theorem s_spawn_full (h : Ps B G W sb s t) (hE : Env8 W Ad) {v : Value} {l : List Prt} (hv : PRow W v l) (hl : l.length ≤ 90) (hc : chkL s.ws l = 0) (hf : s.r.free = []) :
    Calls Tryz.prog 116 #[.pointer (some ⟨sb, 0, none⟩), v] W fun e W' => ∃ r, e = .returned (.tuple #[.agg #[.int .i64 0, .int .i64 0], r]) ∧ Er Ad W' r 6 ∧ Below W.heap.size W W' := by
  obtain ⟨c, h1, h2, h3⟩ := h
  exact So.spawn_full Ad h1 hE hv hl hc hf
theorem s_spawn (h : Ps B G W sb s t) (hF : Fin B G W) (hE : Env8 W Ad) (ht : t ≤ 900) {v : Value} {l : List Prt} (hv : PFree G W v l) (hl : l.length ≤ 90) (hc : chkL s.ws l = 0) (hti : ∀ p ∈ l, I64 p.t) {f : List Nat} (hf : s.r.free = f ++ [i]) :
    Calls Tryz.prog 116 #[.pointer (some ⟨sb, 0, none⟩), v] W fun e W' => e = .returned (.tuple #[.agg #[.int .i64 (i : Int), .int .i64 ((s.r.gens.getD i 0 + 1 : Nat) : Int)], .nilIface]) ∧ Go1 B G W W' sb (entered { s with r := s.r.took i } i (sortP l)) (t + 1) := by
  obtain ⟨c, h1, h2, h3⟩ := h
  refine (So.spawn_ok Ad h1 hE (l := l) ?_ hl hc hti hf (by omega)).mono ?_
  · obtain ⟨a, cc, q1, q2⟩ := hv
    exact ⟨a, cc, q1, q2.imp id fun ⟨b, o, e1, e2, e3⟩ => ⟨b, o, e1, fun q => by rw [h3 b q] at e2; exact absurd e2 (by decide), e3⟩⟩
  · rintro e W' ⟨rfl, c', k1, k2, k3⟩
    exact ⟨rfl, Ps.go hF h1 h3 k1 (by omega) k3⟩
theorem s_despawn (h : Ps B G W sb s t) (hF : Fin B G W) (ha : al s i g) :
    Calls Tryz.prog 117 #[.pointer (some ⟨sb, 0, none⟩), .agg #[.int .i64 (i : Int), .int .i64 (g : Int)]] W fun e W' => ∃ v, e = .returned (.tuple #[v, .nilIface]) ∧ Prts W.heap.size W' v (s.at i) ∧ ∃ G', Up (· = 1) G G' W W' ∧ Fin B G' W' ∧ Ps B G' W' sb { s with r := s.r.freed i } t ∧ ∀ k, v.ownBlock = some k → G' k = 0 := by
  classical
  obtain ⟨c, h1, h2, h3⟩ := h
  refine (So.despawn_ok h1 ha).mono ?_
  rintro e W' ⟨v, rfl, q1, c', k1, k2, k3, k4⟩
  have hs : St (fun k => G k = 1) W W' := st_mono k3.st fun k _ q => h3 k q
  refine ⟨v, rfl, q1, paint G W.heap.size 1 fun k => c'.f k ≠ (0, 0, 0), paint_up (C := (· = 1)) rfl hs, paint_fin hF h1.big hs.size fun k hk => (k1.lt k hk).2, ⟨c', k1, by omega, paint_at fun k hk => ?_⟩, fun k hk => ?_⟩
  · by_cases e : k < W.heap.size
    · rcases k3.new k hk with q | q
      · exact .inl ⟨e, h3 k q⟩
      · omega
    · exact .inr ⟨by omega, hk⟩
  · have := (q1.lt _ hk).1
    unfold paint
    rw [if_neg (by omega), if_neg (by simpa using k4 k hk)]
theorem s_insert_bad (h : Ps B G W sb s t) (hE : Env8 W Ad) (ha : al s i g) (p : Prt) (hf : fitP s.ws p = false) :
    Calls Tryz.prog 142 #[.pointer (some ⟨sb, 0, none⟩), .agg #[.int .i64 (i : Int), .int .i64 (g : Int)], .agg #[.int .i64 p.c, .int .i64 p.v0, .int .i64 p.v1, .int .i64 p.v2, .int .i64 p.v3, .int .i64 p.t]] W fun e W' => ∃ r, e = .returned r ∧ Er Ad W' r 1 ∧ Below W.heap.size W W' := by
  obtain ⟨c, h1, h2, h3⟩ := h
  obtain ⟨n, j, m, own, y, A⟩ := h1.stands ha (by simp)
  refine So.insert_err (Ad := Ad) (k := 1) (by omega) fun W' hb => ?_
  have := So.tableFor_some (h1.later hb) (hE.later hb) ha A p
  rw [hf] at this
  exact this
theorem s_insert_twice (h : Ps B G W sb s t) (hE : Env8 W Ad) (ha : al s i g) (p q : Prt) (hf : fitP s.ws p = true) (hq : q ∈ s.at i) (hqc : q.c = p.c) :
    Calls Tryz.prog 142 #[.pointer (some ⟨sb, 0, none⟩), .agg #[.int .i64 (i : Int), .int .i64 (g : Int)], .agg #[.int .i64 p.c, .int .i64 p.v0, .int .i64 p.v1, .int .i64 p.v2, .int .i64 p.v3, .int .i64 p.t]] W fun e W' => ∃ r, e = .returned r ∧ Er Ad W' r 9 ∧ Below W.heap.size W W' := by
  obtain ⟨c, h1, h2, h3⟩ := h
  obtain ⟨n, j, m, own, y, A⟩ := h1.stands ha (by simp)
  have hr := Rs.fit_range hf
  have h16 := h1.okw.1
  refine So.insert_twice h1 hE ha A p hf (cc := p.c.toNat) (by omega) (by omega) ?_
  rw [A.msk]
  exact (So.msk_mem (So.okL_pos A.ok.1) _).2 ⟨q, hq, by omega⟩
theorem s_insert (h : Ps B G W sb s t) (hF : Fin B G W) (hE : Env8 W Ad) (ha : al s i g) (p : Prt) (hf : fitP s.ws p = true) (ht : I64 p.t) (hno : ∀ q ∈ s.at i, q.c ≠ p.c) :
    Calls Tryz.prog 142 #[.pointer (some ⟨sb, 0, none⟩), .agg #[.int .i64 (i : Int), .int .i64 (g : Int)], .agg #[.int .i64 p.c, .int .i64 p.v0, .int .i64 p.v1, .int .i64 p.v2, .int .i64 p.v3, .int .i64 p.t]] W fun e W' => e = .returned .nilIface ∧ Go1 B G W W' sb (entered s i (insP (s.at i) p)) t := by
  obtain ⟨c, h1, h2, h3⟩ := h
  obtain ⟨n, j, m, own, y, A⟩ := h1.stands ha (by simp)
  have hr := Rs.fit_range hf
  have h16 := h1.okw.1
  refine (So.insert_ok Ad h1 hE ha A p hf ht (cc := p.c.toNat) (by omega) (by omega) ?_).mono ?_
  · refine Bool.eq_false_iff.2 fun q => ?_
    rw [A.msk] at q
    obtain ⟨z, hz, ez⟩ := (So.msk_mem (So.okL_pos A.ok.1) _).1 q
    exact hno z hz (by omega)
  · rintro e w' ⟨rfl, c', k1, k2, k3⟩
    exact ⟨rfl, Ps.go hF h1 h3 k1 (by omega) k3⟩
theorem s_get_none (h : Ps B G W sb s t) (hE : Env8 W Ad) (ha : al s i g) (comp : Int) (hc : I64 comp) (hno : pick (s.at i) comp = none) :
    Calls Tryz.prog 79 #[.pointer (some ⟨sb, 0, none⟩), .agg #[.int .i64 (i : Int), .int .i64 (g : Int)], .int .i64 comp] W fun e W' => ∃ r, e = .returned (.tuple #[Prt.zero.val, r]) ∧ Er Ad W' r 7 ∧ Below W.heap.size W W' := by
  obtain ⟨c, h1, h2, h3⟩ := h
  exact So.get_none h1 hE ha comp hc (pick_none hno)
theorem s_get (h : Ps B G W sb s t) (ha : al s i g) (comp : Int) (q : Prt) (hq : pick (s.at i) comp = some q) :
    Calls Tryz.prog 79 #[.pointer (some ⟨sb, 0, none⟩), .agg #[.int .i64 (i : Int), .int .i64 (g : Int)], .int .i64 comp] W fun e W' => e = .returned (.tuple #[q.val, .nilIface]) ∧ Below W.heap.size W W' := by
  obtain ⟨c, h1, h2, h3⟩ := h
  obtain ⟨hqm, rfl⟩ := pick_some hq
  exact So.get_ok h1 ha q hqm
theorem s_remove_none (h : Ps B G W sb s t) (hE : Env8 W Ad) (ha : al s i g) (comp : Int) (hc : I64 comp) (hno : pick (s.at i) comp = none) :
    Calls Tryz.prog 144 #[.pointer (some ⟨sb, 0, none⟩), .agg #[.int .i64 (i : Int), .int .i64 (g : Int)], .int .i64 comp] W fun e W' => ∃ r, e = .returned (.tuple #[Prt.zero.val, r]) ∧ Er Ad W' r 7 10 ∧ Below W.heap.size W W' := by
  obtain ⟨c, h1, h2, h3⟩ := h
  exact So.remove_err (k := 7) (by omega) fun W' hb => So.get_none (h1.later hb) (hE.later hb) ha comp hc (pick_none hno)
theorem s_remove (h : Ps B G W sb s t) (hF : Fin B G W) (ha : al s i g) (comp : Int) (q : Prt) (hq : pick (s.at i) comp = some q) :
    Calls Tryz.prog 144 #[.pointer (some ⟨sb, 0, none⟩), .agg #[.int .i64 (i : Int), .int .i64 (g : Int)], .int .i64 comp] W fun e W' => e = .returned (.tuple #[q.val, .nilIface]) ∧ Go1 B G W W' sb (entered s i (remP (s.at i) comp)) t := by
  obtain ⟨c, h1, h2, h3⟩ := h
  obtain ⟨hqm, rfl⟩ := pick_some hq
  refine (So.remove_ok h1 ha q hqm).mono ?_
  rintro e w' ⟨rfl, c', k1, k2, k3⟩
  exact ⟨rfl, Ps.go hF h1 h3 k1 (by omega) k3⟩
end
end Go.Proofs.YthadfdbkkmmgoaaGreatDoor.Wo
namespace Go.Proofs.YthadfdbkkmmgoaaGreatDoor.Wo
open Go.RowKit Go.Shelf Go.Maps
open Go.Proofs.YthadfdbkkmmgoaaGreatDoor.Rs (SD Prt remP insP)
open Go.Proofs.YthadfdbkkmmgoaaGreatDoor.So (al al_gen al_lt al_iff al_took al_freed rowed entered at_entered at_rowed at_rowed_other)
open Go.Proofs.YthadfdbkkmmgoaaGreatDoor.Bd (Prs okP who num ins del)
/-- Beings: their numbers, and their parts. -/
abbrev Bgs := List (Int × List Prt)
def beings (s : SD) (l : Prs) : Bgs := l.map fun x => (x.1, s.at x.2.1.toNat)
/-- What somebody has. -/
def look (L : Bgs) (id : Int) : Option (List Prt) := (L.find? fun x => x.1 == id).map (·.2)
def setB (L : Bgs) (id : Int) (r : List Prt) : Bgs := L.map fun x => if x.1 = id then (id, r) else x
def delB (id : Int) (L : Bgs) : Bgs := L.filter fun x => !(x.1 == id)
def insB (p : Int × List Prt) : Bgs → Bgs
  | [] => [p]
  | x :: L => if p.1 < x.1 then p :: x :: L else x :: insB p L
/-- Those who have numbers are those who are there. -/
structure Lives (s : SD) (l : Prs) : Prop where
  al : ∀ x ∈ l, ∃ i g : Nat, x.2 = ((i : Int), (g : Int)) ∧ So.al s i g
  cnt : s.r.count = l.length
  one : l.Pairwise (fun x y => x.2 ≠ y.2)
  ok : s.r.ok
  n2 : s.p.length = 64
  n64 : s.r.gens.length ≤ 64
theorem pair_inj {α β : Type} {f : α → β} : ∀ {l : List α}, l.Pairwise (fun x y => f x ≠ f y) → ∀ {x y : α}, x ∈ l → y ∈ l → f x = f y → x = y
  | [], _, _, _, hx, _, _ => by simp at hx
  | a :: l, h, x, y, hx, hy, e => by
    rw [List.pairwise_cons] at h
    rcases List.mem_cons.1 hx with e1 | hx' <;> rcases List.mem_cons.1 hy with e2 | hy'
    · rw [e1, e2]
    · exact absurd (e1 ▸ e) (h.1 y hy')
    · exact absurd (e2 ▸ e.symm) (h.1 x hx')
    · exact pair_inj h.2 hx' hy' e
section
variable {s s' : SD} {l : Prs} {n id : Int} {i g : Nat} {r : List Prt}
theorem Lives.at (h : Lives s l) (hp : okP n l) {e : Int × Int} (hw : who l id = some e) : ∃ i g : Nat, e = ((i : Int), (g : Int)) ∧ So.al s i g ∧ (id, e) ∈ l := by
  have hm := (hp.who id e).1 hw
  obtain ⟨i, g, h1, h2⟩ := h.al _ hm
  exact ⟨i, g, h1, h2, hm⟩
/-- Where one stands no other one stands. -/
theorem Lives.idx (h : Lives s l) {x y : Int × Int × Int} (hx : x ∈ l) (hy : y ∈ l) (e : x.2.1 = y.2.1) : x = y := by
  obtain ⟨i, g, h1, h2⟩ := h.al x hx
  obtain ⟨j, k, h3, h4⟩ := h.al y hy
  have e1 : i = j := by rw [h1, h3] at e; simp only at e; omega
  subst e1
  have e2 := al_gen h2 h4
  subst e2
  exact pair_inj (f := fun x : Int × Int × Int => x.2) h.one hx hy (h1.trans h3.symm)
theorem look_beings (s : SD) (l : Prs) (id : Int) : look (beings s l) id = (who l id).map fun e => s.at e.1.toNat := by
  unfold look beings who
  induction l with
  | nil => rfl
  | cons x l ih =>
    rw [List.map_cons, List.find?_cons, List.find?_cons]
    cases e : x.1 == id with
    | true => rfl
    | false => exact ih
theorem Lives.lt (h : Lives s l) {i g : Nat} (ha : So.al s i g) : i < 64 := Nat.lt_of_lt_of_le (al_lt ha) h.n64
theorem set_beings (h : Lives s l) (hp : okP n l) (hw : who l id = some ((i : Int), (g : Int))) (h1 : s'.at i = r) (h2 : ∀ k, k ≠ i → s'.at k = s.at k) : beings s' l = setB (beings s l) id r := by
  unfold beings setB
  rw [List.map_map]
  refine List.map_congr_left fun x hx => ?_
  have hm := (hp.who id _).1 hw
  by_cases e : x.1 = id
  · have hx2 : (id, x.2) ∈ l := by rw [← e]; exact hx
    have := (hp.who id x.2).2 hx2
    rw [hw] at this
    have e2 : x.2 = ((i : Int), (g : Int)) := by simpa using this.symm
    simp only [Function.comp_apply, e, if_pos, e2, Int.toNat_natCast, h1]
  · simp only [Function.comp_apply, e, if_neg, not_false_eq_true]
    obtain ⟨j, k, q1, q2⟩ := h.al x hx
    have : j ≠ i := fun q => by
      subst q
      have := h.idx hx hm (by rw [q1])
      rw [this] at e
      exact e rfl
    rw [q1]
    simp only [Int.toNat_natCast]
    rw [h2 j this]
theorem at_entered_other {k : Nat} (hk : k ≠ i) : (entered s i r).at k = s.at k := by
  unfold entered SD.at
  rw [List.getD_eq_getElem?_getD, List.getD_eq_getElem?_getD, List.getElem?_set_ne (fun e => hk e.symm)]
theorem beings_entered (h : Lives s l) (hp : okP n l) (hw : who l id = some ((i : Int), (g : Int))) (ha : So.al s i g) : beings (entered s i r) l = setB (beings s l) id r :=
  set_beings h hp hw (at_entered r (by have := h.lt ha; have := h.n2; omega)) fun _ hk => at_entered_other hk
theorem beings_rowed (h : Lives s l) (hp : okP n l) (hw : who l id = some ((i : Int), (g : Int))) (ha : So.al s i g) : beings (rowed s i r) l = setB (beings s l) id r :=
  set_beings h hp hw (at_rowed r (by have := h.lt ha; have := h.n2; omega)) fun _ hk => at_rowed_other r hk
theorem Lives.entered (h : Lives s l) (i : Nat) (r : List Prt) : Lives (So.entered s i r) l := ⟨fun x hx => h.al x hx, h.cnt, h.one, h.ok, by unfold So.entered; simpa using h.n2, h.n64⟩
theorem Lives.rowed (h : Lives s l) (i : Nat) (r : List Prt) : Lives (So.rowed s i r) l := ⟨fun x hx => h.al x hx, h.cnt, h.one, h.ok, by unfold So.rowed; simpa using h.n2, h.n64⟩
theorem beings_del (s : SD) (l : Prs) (id : Int) (r : Ro.RS) : beings { s with r := r } (del id l) = delB id (beings s l) := by
  unfold beings del delB
  rw [List.filter_map]
  rfl
theorem beings_ins {p : Int × Int × Int} {l : Prs} (h2 : ∀ x ∈ l, s'.at x.2.1.toNat = s.at x.2.1.toNat) : beings s' (ins p l) = insB (p.1, s'.at p.2.1.toNat) (beings s l) := by
  induction l with
  | nil => rfl
  | cons x l ih =>
    have h3 := h2 x (List.mem_cons_self ..)
    have ih := ih fun y hy => h2 y (List.mem_cons_of_mem _ hy)
    unfold beings at *
    unfold ins
    rw [List.map_cons, insB]
    by_cases e : p.1 < x.1
    · rw [if_pos e, if_pos e, List.map_cons, List.map_cons, h3]
      congr 2
      exact List.map_congr_left fun y hy => by rw [h2 y (List.mem_cons_of_mem _ hy)]
    · rw [if_neg e, if_neg e, List.map_cons, ih, h3]
theorem Lives.del (h : Lives s l) (hp : okP n l) (hw : who l id = some ((i : Int), (g : Int))) (ha : So.al s i g) : Lives { s with r := s.r.freed i } (del id l) := by
  have hm := (hp.who id _).1 hw
  have hi : i ∉ s.r.free := ((al_iff _ _ _).1 ha).1
  refine ⟨fun x hx => ?_, ?_, h.one.filter _, ⟨?_, ?_⟩, h.n2, h.n64⟩
  · obtain ⟨h1, h2⟩ := Bd.mem_del.1 hx
    obtain ⟨j, k, q1, q2⟩ := h.al x h1
    refine ⟨j, k, q1, (al_freed ha j k).2 ⟨q2, fun q => ?_⟩⟩
    subst q
    exact h2 (by rw [h.idx h1 hm (by rw [q1])])
  · have h1 := Bd.del_len hp hw
    have h2 := h.cnt
    have h3 := al_lt ha
    show s.r.gens.length - (s.r.free ++ [i]).length = _
    unfold Ro.RS.count at h2
    rw [List.length_append]
    simp
    omega
  · show (s.r.free ++ [i]).Nodup
    rw [List.nodup_append]
    exact ⟨h.ok.1, by simp, fun a hx b hb e => by simp only [List.mem_singleton] at hb; exact hi (hb ▸ e ▸ hx)⟩
  · intro j hj
    change j ∈ s.r.free ++ [i] at hj
    rcases List.mem_append.1 hj with q | q
    · exact h.ok.2 j q
    · simp only [List.mem_singleton] at q; rw [q]; show i < s.r.gens.length; exact al_lt ha
/-- Who comes stands where nobody stands. -/
theorem Lives.fresh (h : Lives s l) {f : List Nat} (hf : s.r.free = f ++ [i]) {x : Int × Int × Int} (hx : x ∈ l) : x.2.1 ≠ (i : Int) := fun e => by
  obtain ⟨j, k, q1, q2⟩ := h.al x hx
  rw [q1] at e
  have e1 : j = i := by simp only at e; omega
  subst e1
  exact ((al_iff _ _ _).1 q2).1 (by rw [hf]; simp)
theorem Lives.ins (h : Lives s l) {f : List Nat} (hf : s.r.free = f ++ [i]) {m : Int} (r : List Prt) : Lives (So.entered { s with r := s.r.took i } i r) (ins (m, (i : Int), ((s.r.gens.getD i 0 + 1 : Nat) : Int)) l) := by
  have hi : i < s.r.gens.length := h.ok.2 i (by rw [hf]; simp)
  refine ⟨fun x hx => ?_, ?_, Bd.ins_one h.one fun x hx e => h.fresh hf hx (by rw [e]), ⟨?_, ?_⟩, by unfold So.entered; simpa using h.n2, by show (s.r.gens.set _ _).length ≤ 64; simpa using h.n64⟩
  · rcases Bd.mem_ins.1 hx with rfl | hx
    · exact ⟨i, _, rfl, (al_took h.ok hf _ _).2 (.inl ⟨rfl, rfl⟩)⟩
    · obtain ⟨j, k, q1, q2⟩ := h.al x hx
      exact ⟨j, k, q1, (al_took h.ok hf _ _).2 (.inr q2)⟩
  · have h2 := h.cnt
    rw [Bd.ins_len]
    unfold Ro.RS.count at h2
    show (s.r.gens.set _ _).length - (s.r.free.dropLast).length = _
    rw [hf] at h2 ⊢
    simp at h2 ⊢
    have h3 : f.length + 1 ≤ s.r.gens.length := by
      have := h.ok
      have hnd := this.1
      have hl : s.r.free.length ≤ s.r.gens.length := by
        have q := List.Nodup.length_le_of_subset (l₂ := List.range s.r.gens.length) hnd fun x hx => List.mem_range.2 (this.2 x hx)
        simpa using q
      rw [hf] at hl
      simpa using hl
    omega
  · show (s.r.free.dropLast).Nodup
    have := h.ok.1
    rw [hf] at this ⊢
    simp
    exact (List.nodup_append.1 this).1
  · intro j hj
    change j ∈ s.r.free.dropLast at hj
    show j < (s.r.gens.set _ _).length
    rw [List.length_set]
    exact h.ok.2 j (List.dropLast_subset _ hj)
theorem beings_spawn (h : Lives s l) {f : List Nat} (hf : s.r.free = f ++ [i]) {m g : Int} (r : List Prt) : beings (So.entered { s with r := s.r.took i } i r) (ins (m, (i : Int), g) l) = insB (m, r) (beings s l) := by
  have hi : i < s.p.length := by
    have := h.ok.2 i (by rw [hf]; simp)
    have := h.n64
    have := h.n2
    omega
  have e := beings_ins (s := s) (s' := So.entered { s with r := s.r.took i } i r) (p := (m, (i : Int), g)) (l := l) fun x hx => ?_
  · rw [e]
    show insB (m, (So.entered { s with r := s.r.took i } i r).at (i : Int).toNat) _ = _
    rw [Int.toNat_natCast, at_entered (s := { s with r := s.r.took i }) r hi]
  · obtain ⟨j, k, q1, q2⟩ := h.al x hx
    have : j ≠ i := fun q => h.fresh hf hx (by rw [q1, q])
    rw [q1]
    simp only [Int.toNat_natCast]
    rw [at_entered_other this]
    rfl
/-- There is room as long as fewer are there than may be. -/
theorem Lives.full (h : Lives s l) : s.r.free = [] ↔ s.r.gens.length ≤ l.length := by
  have h2 := h.cnt
  unfold Ro.RS.count at h2
  have hl : s.r.free.length ≤ s.r.gens.length := by
    have q := List.Nodup.length_le_of_subset (l₂ := List.range s.r.gens.length) h.ok.1 fun x hx => List.mem_range.2 (h.ok.2 x hx)
    simpa using q
  constructor
  · intro e
    rw [e] at h2
    simp at h2
    omega
  · intro e
    exact List.length_eq_zero_iff.1 (by omega)
end
end Go.Proofs.YthadfdbkkmmgoaaGreatDoor.Wo
namespace Go.Proofs.YthadfdbkkmmgoaaGreatDoor.Sc
open Go.RowKit Go.Shelf
/-- The set of one number. -/
def bitI (n : Int) : Int := if 0 ≤ n ∧ n < 32 then 2 ^ n.toNat % 4294967296 else 0
set_option maxHeartbeats 800000 in
theorem bit_low (n : Int) (w : World) (h : n < 0) : Calls Tryz.prog 138 #[.int .i64 n] w fun e w' => e = .returned (.int .u32 0) ∧ w' = w := by
  go_enter Tryz.func138, Tryz.ntmps138
  go_wp2
  go_ret
  exact ⟨rfl, rfl⟩
set_option maxHeartbeats 800000 in
theorem bit_high (n : Int) (w : World) (h : 32 ≤ n) : Calls Tryz.prog 138 #[.int .i64 n] w fun e w' => e = .returned (.int .u32 0) ∧ w' = w := by
  have h0 : ¬ n < 0 := by omega
  go_enter Tryz.func138, Tryz.ntmps138
  go_wp2
  go_ret
  exact ⟨rfl, rfl⟩
set_option maxHeartbeats 800000 in
theorem bit_in (n : Nat) (w : World) (h : n < 32) : Calls Tryz.prog 138 #[.int .i64 (n : Int)] w fun e w' => e = .returned (.int .u32 (2 ^ n % 4294967296)) ∧ w' = w := by
  have h0 : ¬ (n : Int) < 0 := by omega
  have h1 : ¬ (32 : Int) ≤ n := by omega
  go_enter Tryz.func138, Tryz.ntmps138
  go_wp2
  go_ret
  exact ⟨rfl, rfl⟩
theorem bit_any (n : Int) (w : World) : Calls Tryz.prog 138 #[.int .i64 n] w fun e w' => e = .returned (.int .u32 (bitI n)) ∧ w' = w := by
  by_cases h0 : n < 0
  · rw [show bitI n = 0 from if_neg (by omega)]; exact bit_low n w h0
  · by_cases h1 : 32 ≤ n
    · rw [show bitI n = 0 from if_neg (by omega)]; exact bit_high n w h1
    · obtain ⟨k, rfl⟩ := Int.eq_ofNat_of_zero_le (show 0 ≤ n by omega)
      rw [show bitI (k : Int) = 2 ^ k % 4294967296 from (if_pos (by omega)).trans (by rw [Int.toNat_natCast])]
      exact bit_in k w (by omega)
def orI (m n : Int) : Int := bits .or .u32 m (bitI n)
set_option maxHeartbeats 800000 in
theorem with_any (m n : Int) (w : World) : Calls Tryz.prog 133 #[.int .u32 m, .int .i64 n] w fun e w' => e = .returned (.int .u32 (bits .or .u32 m (bitI n))) ∧ w' = w := by
  have BC := hid (bit_any n w)
  go_enter Tryz.func133, Tryz.ntmps133
  go_wp2_with fail
  refine BC.out.mono ?_
  rintro e w1 ⟨rfl, rfl⟩
  go_wp2_with fail
  go_ret
  exact ⟨rfl, rfl⟩
set_option maxHeartbeats 800000 in
theorem has_any5 (m n : Int) (w : World) : Calls Tryz.prog 94 #[.int .u32 m, .int .i64 n] w fun e w' => e = .returned (.bool (bits .and .u32 m (bitI n) != 0)) ∧ w' = w := by
  have BC := hid (bit_any n w)
  go_enter Tryz.func94, Tryz.ntmps94
  go_wp2_with fail
  refine BC.out.mono ?_
  rintro e w1 ⟨rfl, rfl⟩
  go_wp2_with fail
  go_ret
  exact ⟨rfl, rfl⟩
set_option maxHeartbeats 800000 in
theorem within_any (m a : Int) (w : World) : Calls Tryz.prog 93 #[.int .u32 m, .int .u32 a] w fun e w' => e = .returned (.bool (bits .andNot .u32 m a == 0)) ∧ w' = w := by
  go_enter Tryz.func93, Tryz.ntmps93
  go_wp2
  go_ret
  exact ⟨rfl, rfl⟩
def ofM (ds : List Int) : Int := ds.foldl orI 0
theorem ofM_next {ds : List Int} {k : Nat} {x : Int} (h : ds[k]? = some x) : ofM (ds.take (k + 1)) = orI (ofM (ds.take k)) x := by
  unfold ofM
  rw [take_next h, List.foldl_append]; rfl
/-- The components of a kind, as a set. -/
def kindM (cs : List Cmp) (b : Bool) : Nat → Int
  | 0 => 0
  | k + 1 => match cs[k]? with | some c => if c.rb == b then orI (kindM cs b k) (k : Int) else kindM cs b k | none => kindM cs b k
theorem kindM_next {cs : List Cmp} {k : Nat} {c : Cmp} (b : Bool) (h : cs[k]? = some c) : kindM cs b (k + 1) = if c.rb == b then orI (kindM cs b k) (k : Int) else kindM cs b k := by simp only [kindM, h]
set_option maxHeartbeats 1600000 in
set_option maxRecDepth 100000 in
theorem kind_any (W : World) (va vb : Value) (cs : List Cmp) (hC : CmpRow W va cs) (hl : cs.length ≤ 1000) (bb : Bool) :
    Calls Tryz.prog 86 #[.agg #[va, vb], .bool bb] W fun e W' => e = .returned (.int .u32 (kindM cs bb (min cs.length 32))) ∧ Below W.heap.size W W' := by
  have HC := hid hC
  obtain ⟨a, c, rfl, hcap, hlay⟩ := hC
  have HL := hid hlay
  obtain ⟨n, hn⟩ : ∃ n, n = min cs.length 32 := ⟨_, rfl⟩
  have hmin : min (cs.length : Int) 32 = (n : Int) := by rw [hn]; omega
  have hnc : (n : Int) ≤ (c : Int) := by omega
  have hn0 : (0 : Int) ≤ (n : Int) := by omega
  have hnl : n ≤ cs.length := by omega
  have hn32 : (n : Int) ≤ 32 := by omega
  have BA : Hid (Below W.heap.size W (W.alloc (.cells #[.slice a cs.length c, vb] 25))) := (Below.refl _ _).alloc (Nat.le_refl _) _
  rw [← hn]
  clear hlay hn
  go_enter Tryz.func86, Tryz.ntmps86
  go_wp2_with fail
  go_loopw [5, 6, 7, 16] (fun m _ _ i wr => ∃ k : Nat, k ≤ n ∧ i = .int .i64 (k : Int) ∧ Hid (Below W.heap.size W wr) ∧ ∃ z : Int, Hid (z = kindM cs bb k) ∧ m = .int .u32 z) (fun _ _ _ i _ => n - (intOf i).toNat)
  case atStart => exact ⟨0, Nat.zero_le _, rfl, BA.out, 0, rfl, rfl⟩
  case round =>
    obtain ⟨k, hk, rfl, HB, z, HZ, rfl⟩ := hrel
    by_cases hlt : k < n
    · have hki : (k : Int) < (n : Int) := by omega
      obtain ⟨x, hx⟩ := at_lt cs k (by omega)
      obtain ⟨b, o, rfl, hc⟩ : ∃ b o, a = some ⟨b, o, none⟩ ∧ ∀ (j : Nat) (x : Cmp), cs[j]? = some x → W.cell? ⟨b, o + j * 7, none⟩ = some (.string x.s) ∧ W.cell? ⟨b, o + j * 7 + 1, none⟩ = some (.int .i64 x.wd) ∧ W.cell? ⟨b, o + j * 7 + 2, none⟩ = some (.bool x.rb) ∧ W.cell? ⟨b, o + j * 7 + 3, none⟩ = some (.int .i64 x.d0) ∧ W.cell? ⟨b, o + j * 7 + 4, none⟩ = some (.int .i64 x.d1) ∧ W.cell? ⟨b, o + j * 7 + 5, none⟩ = some (.int .i64 x.d2) ∧ W.cell? ⟨b, o + j * 7 + 6, none⟩ = some (.int .i64 x.d3) := by
        rcases HL.out with h | h
        · rw [h] at hx; simp at hx
        · exact h
      obtain ⟨c0, c1, c2, c3, c4, c5, c6⟩ := hc k x hx
      have S := fun {p : Addr} {u : Value} (h : W.cell? p = some u) => Below.seen HB.out (Nat.le_refl _) h
      have c0 := S c0
      have c1 := S c1
      have c2 := S c2
      have c3 := S c3
      have c4 := S c4
      have c5 := S c5
      have c6 := S c6
      have KN := hid (kindM_next bb hx)
      have BX := hid (HB.out.alloc HB.out.size (.cells #[.string x.s, .int .i64 x.wd, .bool x.rb, .int .i64 x.d0, .int .i64 x.d1, .int .i64 x.d2, .int .i64 x.d3] 96))
      have WC := hid (fun W' => with_any z (k : Int) W')
      clear S hc hx
      by_cases hq : x.rb = bb
      · have q : (x.rb == bb) = true := by simp [hq]
        have R : Hid (bits .or .u32 z (bitI (k : Int)) = kindM cs bb (k + 1)) := by show _ = _; rw [KN.out, if_pos q, ← HZ.out]; rfl
        clear hq
        go_wp2_with fail
        refine (WC.out _).mono ?_
        rintro e w1 ⟨rfl, rfl⟩
        clear WC
        go_wp2_with fail
        go_roundw
        case rel => exact ⟨k + 1, by omega, by go_num, BX.out, _, R.out, rfl⟩
        case measure => simp [intOf]; omega
      · have q : (x.rb == bb) = false := by simp [hq]
        have R : Hid (z = kindM cs bb (k + 1)) := by show _ = _; rw [KN.out, if_neg (by rw [q]; decide), ← HZ.out]
        clear hq WC
        go_wp2_with fail
        go_roundw
        case rel => exact ⟨k + 1, by omega, by go_num, BX.out, _, R.out, rfl⟩
        case measure => simp [intOf]; omega
    · have hki : ¬ ((k : Int) < (n : Int)) := by omega
      have R : Hid (z = kindM cs bb n) := by show _ = _; rw [HZ.out, show k = n by omega]
      go_wp2_with fail
      go_ret
      exact ⟨by rw [R.out]; rfl, HB.out⟩
set_option maxHeartbeats 800000 in
theorem rollback_any (W : World) (va vb : Value) (hvb : ∃ a l c, vb = .slice a l c) (cs : List Cmp) (hC : CmpRow W va cs) (hl : cs.length ≤ 1000) :
    Calls Tryz.prog 40 #[.agg #[va, vb]] W fun e W' => e = .returned (.int .u32 (kindM cs true (min cs.length 32))) ∧ Below W.heap.size W W' := by
  have BA : Hid (Below W.heap.size W (W.alloc (.cells #[va, vb] 25))) := (Below.refl _ _).alloc (Nat.le_refl _) _
  have KC := hid (kind_any (W.alloc (.cells #[va, vb] 25)) va vb cs (hC.later BA.out) hl true)
  obtain ⟨a, c, rfl, -, -⟩ := hC
  obtain ⟨a', l', c', rfl⟩ := hvb
  go_enter Tryz.func40, Tryz.ntmps40
  go_wp2_with fail
  refine KC.out.mono ?_
  rintro e w1 ⟨rfl, hb1⟩
  have B1 := hid (BA.out.trans (hb1.mono BA.out.size))
  clear hb1 KC
  go_wp2_with fail
  go_ret
  exact ⟨rfl, B1.out⟩
set_option maxHeartbeats 800000 in
theorem shown_any (W : World) (va vb : Value) (hvb : ∃ a l c, vb = .slice a l c) (cs : List Cmp) (hC : CmpRow W va cs) (hl : cs.length ≤ 1000) :
    Calls Tryz.prog 41 #[.agg #[va, vb]] W fun e W' => e = .returned (.int .u32 (kindM cs false (min cs.length 32))) ∧ Below W.heap.size W W' := by
  have BA : Hid (Below W.heap.size W (W.alloc (.cells #[va, vb] 25))) := (Below.refl _ _).alloc (Nat.le_refl _) _
  have KC := hid (kind_any (W.alloc (.cells #[va, vb] 25)) va vb cs (hC.later BA.out) hl false)
  obtain ⟨a, c, rfl, -, -⟩ := hC
  obtain ⟨a', l', c', rfl⟩ := hvb
  go_enter Tryz.func41, Tryz.ntmps41
  go_wp2_with fail
  refine KC.out.mono ?_
  rintro e w1 ⟨rfl, hb1⟩
  have B1 := hid (BA.out.trans (hb1.mono BA.out.size))
  clear hb1 KC
  go_wp2_with fail
  go_ret
  exact ⟨rfl, B1.out⟩
end Go.Proofs.YthadfdbkkmmgoaaGreatDoor.Sc
namespace Go.Proofs.YthadfdbkkmmgoaaGreatDoor.Sc
open Go.RowKit Go.Shelf
def partV (k : Int) (x : Cmp) (f : Int) : Value := .agg #[.int .i64 k, .int .i64 x.d0, .int .i64 x.d1, .int .i64 x.d2, .int .i64 x.d3, .int .i64 f]
set_option maxHeartbeats 1600000 in
set_option maxRecDepth 100000 in
theorem new_in (W : World) (va vb : Value) (hvb : ∃ a l c, vb = .slice a l c) (cs : List Cmp) (hC : CmpRow W va cs) (hl : cs.length ≤ 1000) (k : Nat) (x : Cmp) (hx : cs[k]? = some x) (f : Int) :
    Calls Tryz.prog 140 #[.agg #[va, vb], .int .i64 (k : Int), .int .i64 f] W fun e W' => e = .returned (.tuple #[.agg #[.int .i64 (k : Int), .int .i64 x.d0, .int .i64 x.d1, .int .i64 x.d2, .int .i64 x.d3, .int .i64 f], .nilIface]) ∧ Below W.heap.size W W' := by
  obtain ⟨a, c, rfl, hcap, hlay⟩ := hC
  obtain ⟨a', l', c', rfl⟩ := hvb
  have hk := (List.getElem?_eq_some_iff.1 hx).1
  have hki : (k : Int) < (cs.length : Int) := by omega
  have hk0 : ¬ ((k : Int) < 0) := by omega
  have hk1 : ¬ ((cs.length : Int) ≤ (k : Int)) := by omega
  have hli : (cs.length : Int) ≤ 1000 := by omega
  obtain ⟨b, o, rfl, hc⟩ : ∃ b o, a = some ⟨b, o, none⟩ ∧ ∀ (j : Nat) (x : Cmp), cs[j]? = some x → W.cell? ⟨b, o + j * 7, none⟩ = some (.string x.s) ∧ W.cell? ⟨b, o + j * 7 + 1, none⟩ = some (.int .i64 x.wd) ∧ W.cell? ⟨b, o + j * 7 + 2, none⟩ = some (.bool x.rb) ∧ W.cell? ⟨b, o + j * 7 + 3, none⟩ = some (.int .i64 x.d0) ∧ W.cell? ⟨b, o + j * 7 + 4, none⟩ = some (.int .i64 x.d1) ∧ W.cell? ⟨b, o + j * 7 + 5, none⟩ = some (.int .i64 x.d2) ∧ W.cell? ⟨b, o + j * 7 + 6, none⟩ = some (.int .i64 x.d3) := by
    rcases hlay with h | h
    · rw [h] at hx; simp at hx
    · exact h
  obtain ⟨c0, c1, c2, c3, c4, c5, c6⟩ := hc k x hx
  have hbl : b < W.heap.size := World.block_lt_of_cell? W _ c0
  have hbn : ¬ (b = W.heap.size) := by omega
  have hbn1 : ¬ (b = W.heap.size + 1) := by omega
  clear hc hx c0 c1 c2 hlay
  go_enter Tryz.func140, Tryz.ntmps140
  go_wp2_with fail
  refine bodyPost_ret (v := .tuple #[.agg #[.int .i64 (k : Int), .int .i64 x.d0, .int .i64 x.d1, .int .i64 x.d2, .int .i64 x.d3, .int .i64 f], .nilIface]) (by simp [results, Tryz.results140, go_sem]) rfl ⟨rfl, ?_⟩
  exact ((Below.refl _ _).alloc (Nat.le_refl _) _).alloc (by simp) _
set_option maxHeartbeats 1600000 in
set_option maxRecDepth 100000 in
theorem new_out (Ad : Nat → Addr) (W : World) (hE : Env8 W Ad) (va vb : Value) (hvb : ∃ a l c, vb = .slice a l c) (cs : List Cmp) (hC : CmpRow W va cs) (hl : cs.length ≤ 1000) (k : Int) (hk : k < 0 ∨ (cs.length : Int) ≤ k) (f : Int) :
    Calls Tryz.prog 140 #[.agg #[va, vb], .int .i64 k, .int .i64 f] W fun e W' => e = .returned (.tuple #[.agg #[.int .i64 0, .int .i64 0, .int .i64 0, .int .i64 0, .int .i64 0, .int .i64 0], .iface 330 (.pointer (some (Ad 1)))]) ∧ Below W.heap.size W W' := by
  obtain ⟨a, c, rfl, hcap, hlay⟩ := hC
  obtain ⟨a', l', c', rfl⟩ := hvb
  have e1 : W.cell? ⟨0, 0, none⟩ = some (.iface 330 (.pointer (some (Ad 1)))) := hE.cell 1 (by decide) (by decide)
  have h0 : 0 < W.heap.size := World.block_lt_of_cell? W _ e1
  have h0n : ¬ (0 = W.heap.size) := by omega
  have h0y : ¬ (0 - 1 = W.heap.size) := by omega
  simp only [Nat.reduceSub] at h0y
  have h0z : ¬ (W.heap = #[]) := by intro h; simp [h] at h0
  have h0w : ¬ (W.heap.size = 0) := by omega
  have h0v : ¬ (0 = W.heap.size) := by omega
  have h0u : 0 < W.heap.size + 1 := by omega
  have h0t : 0 < W.heap.size := by omega
  have h0s : 1 ≤ W.heap.size := by omega
  have h0r : ∀ o o' : Obj, ((W.alloc o).alloc o').cell? ⟨0, 0, none⟩ = some (.iface 330 (.pointer (some (Ad 1)))) := fun o o' => (World.cell?_alloc_lt _ _ _ (by first | (simp; omega) | simp)).trans ((World.cell?_alloc_lt _ _ _ h0).trans e1)
  have hli : (cs.length : Int) ≤ 1000 := by omega
  clear hlay hE
  by_cases h1 : k < 0
  · clear hk
    go_enter Tryz.func140, Tryz.ntmps140
    go_wp2_with fail
    go_region
    all_goals go_wp2_with fail
    all_goals refine bodyPost_ret (v := .tuple #[.agg #[.int .i64 0, .int .i64 0, .int .i64 0, .int .i64 0, .int .i64 0, .int .i64 0], .iface 330 (.pointer (some (Ad 1)))]) (by simp [results, Tryz.results140, go_sem]) rfl ⟨rfl, ?_⟩
    all_goals first | exact ((Below.refl _ _).alloc (Nat.le_refl _) _).alloc (by simp) _ | exact (((Below.refl _ _).alloc (Nat.le_refl _) _).alloc (by simp) _).drew
  · have h2 : (cs.length : Int) ≤ k := by omega
    clear hk
    go_enter Tryz.func140, Tryz.ntmps140
    go_wp2_with fail
    go_region
    all_goals go_wp2_with fail
    all_goals refine bodyPost_ret (v := .tuple #[.agg #[.int .i64 0, .int .i64 0, .int .i64 0, .int .i64 0, .int .i64 0, .int .i64 0], .iface 330 (.pointer (some (Ad 1)))]) (by simp [results, Tryz.results140, go_sem]) rfl ⟨rfl, ?_⟩
    all_goals first | exact ((Below.refl _ _).alloc (Nat.le_refl _) _).alloc (by simp) _ | exact (((Below.refl _ _).alloc (Nat.le_refl _) _).alloc (by simp) _).drew
end Go.Proofs.YthadfdbkkmmgoaaGreatDoor.Sc
namespace Go.Proofs.YthadfdbkkmmgoaaGreatDoor.Wo
open Go.RowKit Go.Shelf Go.Maps
open Go.Proofs.YthadfdbkkmmgoaaGreatDoor.At (St bAl cell_blk blk_seen blk_free Err)
open Go.Proofs.YthadfdbkkmmgoaaGreatDoor.Rs (SD Prt Prts PRow fitP remP insP okL)
open Go.Proofs.YthadfdbkkmmgoaaGreatDoor.So (Er al rowed entered setQ sortP chkL putP)
open Go.Proofs.YthadfdbkkmmgoaaGreatDoor.Bd (Prs okP who num ins del)
open Go.Proofs.YthadfdbkkmmgoaaGreatDoor.Sc (Cmp Rsc CmpRow)
/-- Where a world's pieces lie, and its kinds. -/
structure WX where
  sb : Nat
  bb : Nat
  gb : Nat
  kv : Value
  cs : List Cmp
  ns : List ByteArray
/-- A world, as its pieces say. -/
structure WP where
  s : SD
  t : Nat
  n : Int
  l : Prs
  gl : List Int
  gn : Nat
  fr : Int
  sd : Int
/-- The components that are rolled back. -/
def rmask (cs : List Cmp) : Int := Sc.kindM cs true (min cs.length 32)
/-- Whether a number is a component's that is rolled back. -/
def rolledB (cs : List Cmp) (c : Int) : Bool := if 0 ≤ c then (match cs[c.toNat]? with | some x => x.rb | none => false) else false
def wbox (x : WX) (p : WP) : Array Value := #[x.kv, .slice none 0 0, .int .u32 (rmask x.cs), .pointer (some ⟨x.sb, 0, none⟩), .pointer (some ⟨x.bb, 0, none⟩), .pointer (some ⟨x.gb, 0, none⟩), .pointer none, .int .i64 p.fr, .int .i64 p.sd]
/-- A world's pieces beside one another. -/
structure Wz (B : Nat) (G : Own) (W : World) (wb : Nat) (x : WX) (p : WP) : Prop where
  fin : Fin B G W
  big : B ≤ W.heap.size
  box : W.heap[wb]? = some (.cells (wbox x p) 122 (0, 0))
  gw : G wb = 5
  kin : CmpRow W x.kv x.cs
  kow : x.cs ≠ [] → ∀ b o n c, x.kv = .slice (some ⟨b, o, none⟩) n c → G b = 6
  few : x.cs.length ≤ 16
  st : Ps B G W x.sb p.s p.t
  bd : Pb B G W x.bb p.n p.l
  gd : Pg B G W x.gb x.ns p.gl p.gn
  fr0 : 0 ≤ p.fr ∧ p.fr ≤ 1073741824
/-- A world: who has a number is there. -/
structure Wd (B : Nat) (G : Own) (W : World) (wb : Nat) (x : WX) (p : WP) : Prop where
  z : Wz B G W wb x p
  lv : Lives p.s p.l
section
variable {B : Nat} {G G' : Own} {W W' : World} {wb : Nat} {x : WX} {p : WP} {Ad : Nat → Addr} {C : Nat → Prop}
theorem Wz.ok (h : Wz B G W wb x p) : okP p.n p.l := by
  obtain ⟨ob, nb, h1, -⟩ := h.bd
  exact h1.ok
theorem cmp_kept {v : Value} {cs : List Cmp} (h : CmpRow W v cs) (hs : St (fun k => C (G k)) W W') (hn : cs ≠ [] → ∀ b o n c, v = .slice (some ⟨b, o, none⟩) n c → ¬ C (G b)) : CmpRow W' v cs := by
  obtain ⟨a, c, h1, h2, h3⟩ := h
  refine ⟨a, c, h1, h2, h3.imp id fun ⟨b, o, e, q⟩ => ⟨b, o, e, fun j x hx => ?_⟩⟩
  have hb := hn (fun q => by rw [q] at hx; simp at hx) b o _ _ (by rw [h1, e])
  have K : ∀ {j : Nat} {u : Value}, W.cell? ⟨b, j, none⟩ = some u → W'.cell? ⟨b, j, none⟩ = some u := fun {j} {u} hc => by
    rw [← hc]
    exact World.cell?_of_block (hs.block b (World.block_lt_of_cell? W _ hc) hb)
  obtain ⟨e0, e1, e2, e3, e4, e5, e6⟩ := q j x hx
  exact ⟨K e0, K e1, K e2, K e3, K e4, K e5, K e6⟩
theorem Wz.keep (h : Wz B G W wb x p) (hu : Up C G G' W W') (h5 : ¬ C 5) (h6 : ¬ C 6) : W'.heap[wb]? = some (.cells (wbox x p) 122 (0, 0)) ∧ G' wb = 5 ∧ CmpRow W' x.kv x.cs ∧ (x.cs ≠ [] → ∀ b o n c, x.kv = .slice (some ⟨b, o, none⟩) n c → G' b = 6) := by
  refine ⟨(hu.at h.box (by rw [h.gw]; exact h5)).1, ?_, cmp_kept h.kin hu.st fun hz b o n c e => by rw [h.kow hz b o n c e]; exact h6, fun hz b o n c e => ?_⟩
  · rw [hu.old wb (Array.getElem?_eq_some_iff.1 h.box).1, h.gw]
  · have := h.fin b (by rw [h.kow hz b o n c e]; decide)
    rw [hu.old b this.2, h.kow hz b o n c e]
/-- A step of others'. -/
theorem Wz.kept (h : Wz B G W wb x p) (hu : Up C G G' W W') (hf : Fin B G' W') (hc : ∀ i, C i → i = 0 ∨ 6 < i) : Wz B G' W' wb x p := by
  have N : ∀ i, 1 ≤ i → i ≤ 6 → ¬ C i := fun i h1 h2 q => by have := hc i q; omega
  obtain ⟨k1, k2, k3, k4⟩ := h.keep hu (N 5 (by decide) (by decide)) (N 6 (by decide) (by decide))
  exact ⟨hf, Nat.le_trans h.big hu.st.size, k1, k2, k3, k4, h.few, h.st.kept h.fin hu (N 1 (by decide) (by decide)), h.bd.kept h.fin hu (N 2 (by decide) (by decide)), h.gd.kept h.fin hu (N 3 (by decide) (by decide)), h.fr0⟩
theorem Wz.later (h : Wz B G W wb x p) (hb : Below W.heap.size W W') : Wz B G W' wb x p := h.kept (C := fun _ => False) (Up.later h.fin hb) (h.fin.later hb) fun _ q => q.elim
theorem Wd.later (h : Wd B G W wb x p) (hb : Below W.heap.size W W') : Wd B G W' wb x p := ⟨h.z.later hb, h.lv⟩
/-- A world that others' blocks change beside. -/
theorem Wz.beside {T : Nat → Prop} (h : Wz B G W wb x p) (hs : St T W W') (hd : ∀ k, G k ≠ 0 → ¬ T k) : Wz B G W' wb x p := by
  have st : St (fun k => G k = 0) W W' := st_mono hs fun k _ q => Classical.byContradiction fun e => hd k e q
  exact h.kept (C := (· = 0)) ⟨st, fun _ _ => rfl, fun k hk q => by have := (h.fin k q).2; omega⟩ (fun k q => by have := h.fin k q; have := hs.size; omega) fun i q => .inl q
theorem Wz.store {s' : SD} {t' : Nat} (h : Wz B G W wb x p) (hu : Up (· = 1) G G' W W') (hf : Fin B G' W') (hs : Ps B G' W' x.sb s' t') : Wz B G' W' wb x { p with s := s', t := t' } := by
  obtain ⟨k1, k2, k3, k4⟩ := h.keep hu (by decide) (by decide)
  exact ⟨hf, Nat.le_trans h.big hu.st.size, k1, k2, k3, k4, h.few, hs, h.bd.kept h.fin hu (by decide), h.gd.kept h.fin hu (by decide), h.fr0⟩
theorem Wz.badge {n' : Int} {l' : Prs} (h : Wz B G W wb x p) (hu : Up (· = 2) G G' W W') (hf : Fin B G' W') (hs : Pb B G' W' x.bb n' l') : Wz B G' W' wb x { p with n := n', l := l' } := by
  obtain ⟨k1, k2, k3, k4⟩ := h.keep hu (by decide) (by decide)
  exact ⟨hf, Nat.le_trans h.big hu.st.size, k1, k2, k3, k4, h.few, h.st.kept h.fin hu (by decide), hs, h.gd.kept h.fin hu (by decide), h.fr0⟩
theorem Wz.good {gl' : List Int} {gn' : Nat} (h : Wz B G W wb x p) (hu : Up (· = 3) G G' W W') (hf : Fin B G' W') (hs : Pg B G' W' x.gb x.ns gl' gn') : Wz B G' W' wb x { p with gl := gl', gn := gn' } := by
  obtain ⟨k1, k2, k3, k4⟩ := h.keep hu (by decide) (by decide)
  exact ⟨hf, Nat.le_trans h.big hu.st.size, k1, k2, k3, k4, h.few, h.st.kept h.fin hu (by decide), h.bd.kept h.fin hu (by decide), hs, h.fr0⟩
/-- A cell of the world's own is written. -/
theorem Wz.own {p' : WP} {j : Nat} {v : Value} (h : Wz B G W wb x p) (e1 : p'.s = p.s) (e2 : p'.t = p.t) (e3 : p'.n = p.n) (e4 : p'.l = p.l) (e5 : p'.gl = p.gl) (e6 : p'.gn = p.gn) (hfr : 0 ≤ p'.fr ∧ p'.fr ≤ 1073741824)
    (hb : (wbox x p).setIfInBounds j v = wbox x p') : Wz B G (W.setCell ⟨wb, j, none⟩ v) wb x p' ∧ Up (· = 5) G G W (W.setCell ⟨wb, j, none⟩ v) := by
  have hs : St (fun k => G k = 5) W (W.setCell ⟨wb, j, none⟩ v) := St.setCell _ h.gw
  have hf : Fin B G (W.setCell ⟨wb, j, none⟩ v) := fun k q => by have := h.fin k q; have := hs.size; omega
  have hu : Up (· = 5) G G W (W.setCell ⟨wb, j, none⟩ v) := ⟨hs, fun _ _ => rfl, fun k hk q => by have := (h.fin k q).2; omega⟩
  refine ⟨⟨hf, Nat.le_trans h.big hs.size, ?_, h.gw, cmp_kept (C := (· = 5)) h.kin hs (fun hz b o n c e => by rw [h.kow hz b o n c e]; decide), h.kow, h.few, ?_, ?_, ?_, hfr⟩, hu⟩
  · rw [heap_setCell_same W wb j _ _ v h.box, hb]
  · rw [e1, e2]; exact h.st.kept h.fin hu (by decide)
  · rw [e3, e4]; exact h.bd.kept h.fin hu (by decide)
  · rw [e5, e6]; exact h.gd.kept h.fin hu (by decide)
theorem Wz.cell (h : Wz B G W wb x p) {j : Nat} {v : Value} (hj : (wbox x p)[j]? = some v) : W.cell? ⟨wb, j, none⟩ = some v := cell_blk h.box hj
end
end Go.Proofs.YthadfdbkkmmgoaaGreatDoor.Wo
namespace Go.Proofs.YthadfdbkkmmgoaaGreatDoor.Wo
open Go.RowKit Go.Shelf Go.Maps
open Go.Proofs.YthadfdbkkmmgoaaGreatDoor.At (St bAl cell_blk blk_seen blk_free Err wi bits_or32 bits_and32 pow32)
open Go.Proofs.YthadfdbkkmmgoaaGreatDoor.Rs (SD Prt Prts PRow)
open Go.Proofs.YthadfdbkkmmgoaaGreatDoor.Bd (Prs okP who)
open Go.Proofs.YthadfdbkkmmgoaaGreatDoor.Sc (Cmp)
theorem kind_nat (cs : List Cmp) : ∀ k, k ≤ cs.length → k ≤ 32 → ∃ m : Nat, Sc.kindM cs true k = (m : Int) ∧ m < 4294967296 ∧ ∀ i, m.testBit i = (decide (i < k) && (match cs[i]? with | some x => x.rb | none => false))
  | 0, _, _ => ⟨0, rfl, by decide, fun i => by simp⟩
  | k + 1, h1, h2 => by
    obtain ⟨m, e1, e2, e3⟩ := kind_nat cs k (by omega) (by omega)
    obtain ⟨x, hx⟩ : ∃ x, cs[k]? = some x := ⟨_, List.getElem?_eq_getElem (by omega)⟩
    rw [Sc.kindM_next true hx]
    cases hr : x.rb with
    | false =>
      refine ⟨m, by simpa using e1, e2, fun i => ?_⟩
      rw [e3 i]
      by_cases e : i = k
      · subst e; simp [hx, hr]
      · have : decide (i < k + 1) = decide (i < k) := by rw [Bool.eq_iff_iff]; simp; omega
        rw [this]
    | true =>
      refine ⟨wi m k, ?_, At.wi_lt (n := 32) e2 (by omega), fun i => ?_⟩
      · simp only [beq_self_eq_true, if_true]
        unfold Sc.orI
        rw [e1, show Sc.bitI (k : Int) = ((2 ^ k : Nat) : Int) from At.bitI_in k (by omega), bits_or32 m _ e2 (pow32 (by omega))]
        rfl
      · rw [At.wi_bit, e3 i]
        by_cases e : k = i
        · subst e; simp [hx, hr]
        · have : decide (i < k + 1) = decide (i < k) := by rw [Bool.eq_iff_iff]; simp; omega
          rw [this, decide_eq_false e, Bool.or_false]
theorem rolled_bits (cs : List Cmp) (hl : cs.length ≤ 16) (c : Int) : (bits .and .u32 (rmask cs) (Sc.bitI c) != 0) = rolledB cs c := by
  obtain ⟨m, e1, e2, e3⟩ := kind_nat cs cs.length (Nat.le_refl _) (by omega)
  unfold rmask rolledB
  rw [Nat.min_eq_left (by omega : cs.length ≤ 32), e1]
  by_cases h : 0 ≤ c ∧ c < 32
  · obtain ⟨k, rfl⟩ := Int.eq_ofNat_of_zero_le h.1
    rw [show Sc.bitI (k : Int) = ((2 ^ k : Nat) : Int) from At.bitI_in k (by omega), bits_and32 m _ e2 (pow32 (by omega)), if_pos h.1, Int.toNat_natCast]
    have e : (((m &&& 2 ^ k : Nat) : Int) != 0) = m.testBit k := by
      rw [bne, At.cast_beq0, Bool.eq_iff_iff, ← At.and_pow]
      simp
    rw [e, e3 k]
    by_cases hk : k < cs.length
    · simp [hk]
    · rw [List.getElem?_eq_none (by omega)]; simp
  · rw [show Sc.bitI c = 0 from At.bitI_out c h, show (0 : Int) = ((0 : Nat) : Int) from rfl, bits_and32 m 0 e2 (by decide), Nat.and_zero]
    by_cases h0 : 0 ≤ c
    · rw [if_pos (by simpa using h0), List.getElem?_eq_none (by omega)]; rfl
    · rw [if_neg (by simpa using h0)]; rfl
section
variable {B : Nat} {G G' : Own} {W W' : World} {wb : Nat} {x : WX} {p : WP} {Ad : Nat → Addr}
set_option maxHeartbeats 800000 in
theorem rolls_any (h : Wz B G W wb x p) (c : Int) : Calls Tryz.prog 67 #[.pointer (some ⟨wb, 0, none⟩), .int .i64 c] W fun e W' => e = .returned (.bool (rolledB x.cs c)) ∧ W' = W := by
  have c2 := h.cell (j := 2) rfl
  have HC := Sc.has_any5 (rmask x.cs) c W
  rw [rolled_bits x.cs h.few c] at HC
  have HH := hid HC
  clear h HC
  go_enter Tryz.func67, Tryz.ntmps67
  go_wp2_with fail
  refine HH.out.mono ?_
  rintro e w1 ⟨rfl, rfl⟩
  go_wp2_with fail
  go_ret
  exact ⟨rfl, rfl⟩
set_option maxHeartbeats 3200000 in
theorem find_dead (h : Wz B G W wb x p) (hE : Env8 W Ad) (id : Int) (hi : Bd.I64 id) (hw : who p.l id = none) : Calls Tryz.prog 77 #[.pointer (some ⟨wb, 0, none⟩), .int .i64 id] W fun e W' => e = .returned (.tuple #[.agg #[.int .i64 0, .int .i64 0], .iface 330 (.pointer (some (Ad 17)))]) ∧ Below W.heap.size W W' := by
  obtain ⟨wa, hwa⟩ : ∃ wa, wa = W.alloc (.cells #[.int .i64 0, .int .i64 0] 144) := ⟨_, rfl⟩
  have ba : Below W.heap.size W wa := by rw [hwa]; exact bAl _ _
  have r1 : wa.heap[W.heap.size]? = some (.cells #[.int .i64 0, .int .i64 0] 144 (0, 0)) := by rw [hwa]; exact heap_alloc_new W _
  have ha := h.later ba
  have c4 := ha.cell (j := 4) rfl
  obtain ⟨ob, nb, hb, -⟩ := ha.bd
  have EN := Bd.ent_any hb id hi
  rw [hw] at EN
  have HE : Hid (Calls Tryz.prog 120 #[.pointer (some ⟨x.bb, 0, none⟩), .int .i64 id] wa fun e w1 => e = .returned (.tuple #[.agg #[.int .i64 0, .int .i64 0], .bool false]) ∧ Env8 w1 Ad ∧ w1.heap[W.heap.size]? = some (.cells #[.int .i64 0, .int .i64 0] 144 (0, 0)) ∧ Below W.heap.size W w1) := by
    refine hid (EN.mono ?_)
    rintro e w1 ⟨e1, hb⟩
    exact ⟨e1, hE.later (ba.trans (hb.mono ba.size)), blk_seen hb (Nat.le_refl _) r1, ba.trans (hb.mono ba.size)⟩
  have HWA := hid hwa
  have hlt : 2 < W.heap.size := World.block_lt_of_cell? W _ hE.k17
  have n1 : ¬ 2 = W.heap.size := by omega
  have n2 : ¬ W.heap.size = 2 := by omega
  clear h hb EN hE ba r1 ha hwa
  go_enter Tryz.func77, Tryz.ntmps77
  go_upto_region 1 with fail
  rw [← HWA.out]
  go_wp2_with fail
  refine HE.out.mono ?_
  rintro e w1 ⟨rfl, hE, r1, hb⟩
  obtain ⟨w2, hw2⟩ : ∃ w2, w2 = w1.alloc (.cells #[.int .i64 0, .int .i64 0] 144) := ⟨_, rfl⟩
  have b2 : Below w1.heap.size w1 w2 := by rw [hw2]; exact bAl _ _
  have k17 := (hE.later b2).k17
  have r2 := blk_seen b2 (Nat.le_refl _) r1
  have y0 : w2.cell? ⟨W.heap.size, 0, none⟩ = some (.int .i64 0) := cell_blk r2 rfl
  have y1 : w2.cell? ⟨W.heap.size, 1, none⟩ = some (.int .i64 0) := cell_blk r2 rfl
  have f0 := blk_free r2 0
  have f1 := blk_free r2 1
  have B2 := hid (hb.trans (b2.mono hb.size))
  obtain ⟨w4, hw4⟩ : ∃ w4, w4 = (w2.setCell ⟨W.heap.size, 0, none⟩ (.int .i64 0)).setCell ⟨W.heap.size, 1, none⟩ (.int .i64 0) := ⟨_, rfl⟩
  have same : Hid (w4 = w2) := by
    rw [hw4]
    exact Bd.put2_same r2
  have HW2 := hid hw2
  clear hb HE hE b2 r1 r2 hw2
  go_upto_region 5 with fail
  rw [← HW2.out]
  go_region
  all_goals
    rw [← hw4, same.out]
    go_wp2_with fail
    exact bodyPost_ret (v := .tuple #[.agg #[.int .i64 0, .int .i64 0], .iface 330 (.pointer (some (Ad 17)))]) (by simp [results, Tryz.results77, go_sem, y0, y1]) rfl ⟨rfl, B2.out.drew⟩
set_option maxHeartbeats 3200000 in
theorem find_ok (h : Wz B G W wb x p) (id i g : Int) (hi : Bd.I64 id) (hw : who p.l id = some (i, g)) : Calls Tryz.prog 77 #[.pointer (some ⟨wb, 0, none⟩), .int .i64 id] W fun e W' => e = .returned (.tuple #[.agg #[.int .i64 i, .int .i64 g], .nilIface]) ∧ Below W.heap.size W W' := by
  obtain ⟨wa, hwa⟩ : ∃ wa, wa = W.alloc (.cells #[.int .i64 0, .int .i64 0] 144) := ⟨_, rfl⟩
  have ba : Below W.heap.size W wa := by rw [hwa]; exact bAl _ _
  have r1 : wa.heap[W.heap.size]? = some (.cells #[.int .i64 0, .int .i64 0] 144 (0, 0)) := by rw [hwa]; exact heap_alloc_new W _
  have ha := h.later ba
  have c4 := ha.cell (j := 4) rfl
  obtain ⟨ob, nb, hb, -⟩ := ha.bd
  have EN := Bd.ent_any hb id hi
  rw [hw] at EN
  have HE : Hid (Calls Tryz.prog 120 #[.pointer (some ⟨x.bb, 0, none⟩), .int .i64 id] wa fun e w1 => e = .returned (.tuple #[.agg #[.int .i64 i, .int .i64 g], .bool true]) ∧ w1.heap[W.heap.size]? = some (.cells #[.int .i64 0, .int .i64 0] 144 (0, 0)) ∧ Below W.heap.size W w1) := by
    refine hid (EN.mono ?_)
    rintro e w1 ⟨e1, hb⟩
    exact ⟨e1, blk_seen hb (Nat.le_refl _) r1, ba.trans (hb.mono ba.size)⟩
  have HWA := hid hwa
  clear h hb EN ba r1 ha hwa
  go_enter Tryz.func77, Tryz.ntmps77
  go_upto_region 1 with fail
  rw [← HWA.out]
  go_wp2_with fail
  refine HE.out.mono ?_
  rintro e w1 ⟨rfl, r1, hb⟩
  obtain ⟨w2, hw2⟩ : ∃ w2, w2 = w1.alloc (.cells #[.int .i64 i, .int .i64 g] 144) := ⟨_, rfl⟩
  have b2 : Below w1.heap.size w1 w2 := by rw [hw2]; exact bAl _ _
  have r2 := blk_seen b2 (Nat.le_refl _) r1
  have q2 : w2.heap[w1.heap.size]? = some (.cells #[.int .i64 i, .int .i64 g] 144 (0, 0)) := by rw [hw2]; exact heap_alloc_new w1 _
  have v0 : w2.cell? ⟨w1.heap.size, 0, none⟩ = some (.int .i64 i) := cell_blk q2 rfl
  have v1 : w2.cell? ⟨w1.heap.size, 1, none⟩ = some (.int .i64 g) := cell_blk q2 rfl
  have y0 : w2.cell? ⟨W.heap.size, 0, none⟩ = some (.int .i64 0) := cell_blk r2 rfl
  have y1 : w2.cell? ⟨W.heap.size, 1, none⟩ = some (.int .i64 0) := cell_blk r2 rfl
  have f0 := blk_free r2 0
  have f1 := blk_free r2 1
  have hne : ¬ w1.heap.size = W.heap.size := fun e => by
    have := (Array.getElem?_eq_some_iff.1 r1).1
    omega
  have r4 := Bd.put2_blk r2 i g
  have B4 := hid ((hb.trans (b2.mono hb.size)).trans ((((Below.refl W.heap.size w2).setCell (p := ⟨W.heap.size, 0, none⟩) (Nat.le_refl _) (.int .i64 i)).setCell (p := ⟨W.heap.size, 1, none⟩) (Nat.le_refl _) (.int .i64 g))))
  unfold Bd.put2 at r4
  obtain ⟨w4, hw4⟩ : ∃ w4, w4 = (w2.setCell ⟨W.heap.size, 0, none⟩ (.int .i64 i)).setCell ⟨W.heap.size, 1, none⟩ (.int .i64 g) := ⟨_, rfl⟩
  rw [← hw4] at r4 B4
  have z0 : w4.cell? ⟨W.heap.size, 0, none⟩ = some (.int .i64 i) := cell_blk r4 rfl
  have z1 : w4.cell? ⟨W.heap.size, 1, none⟩ = some (.int .i64 g) := cell_blk r4 rfl
  have HW2 := hid hw2
  clear hb HE b2 r1 r2 hw2 q2 r4
  go_upto_region 6 with fail
  rw [← HW2.out]
  go_wp2_with fail
  rw [← hw4]
  exact bodyPost_ret (v := .tuple #[.agg #[.int .i64 i, .int .i64 g], .nilIface]) (by simp [results, Tryz.results77, go_sem, z0, z1]) rfl ⟨rfl, B4.out⟩
/-- An entry. -/
def uV (k id c v0 v1 v2 v3 t : Int) (ad : Option Addr) (nn cc : Nat) (n o : Int) : Value := .agg #[.int .i64 k, .int .i64 id, .int .i64 c, .int .i64 v0, .int .i64 v1, .int .i64 v2, .int .i64 v3, .int .i64 t, .slice ad nn cc, .int .i64 n, .int .i64 o]
set_option maxHeartbeats 800000 in
/-- Nobody's journal takes nothing. -/
theorem jnote_nil (hE : Env8 W Ad) (k id c v0 v1 v2 v3 t : Int) (ad : Option Addr) (nn cc : Nat) (n o : Int) :
    Calls Tryz.prog 109 #[.pointer none, uV k id c v0 v1 v2 v3 t ad nn cc n o] W fun e W' => ∃ ev, e = .returned ev ∧ Below W.heap.size W W' := by
  unfold uV
  have HW := hid (bAl W (.cells #[.int .i64 k, .int .i64 id, .int .i64 c, .int .i64 v0, .int .i64 v1, .int .i64 v2, .int .i64 v3, .int .i64 t, .slice ad nn cc, .int .i64 n, .int .i64 o] 130))
  have c2 := (hE.later HW.out).k2
  have c2' := hE.k2
  have hlt : 3 < W.heap.size := World.block_lt_of_cell? W _ c2'
  have hne : ¬ 3 = W.heap.size := by omega
  have AC := hid (fun str => At.at_err Ad str _ 2 0 (W.alloc (.cells #[.int .i64 k, .int .i64 id, .int .i64 c, .int .i64 v0, .int .i64 v1, .int .i64 v2, .int .i64 v3, .int .i64 t, .slice ad nn cc, .int .i64 n, .int .i64 o] 130)) (At.err_leaf Ad _ 2 (by decide)))
  clear hE c2
  go_enter Tryz.func109, Tryz.ntmps109
  go_wp2_with fail
  refine (AC.out _).mono ?_
  rintro e w1 ⟨t, q, rfl, hv, hb⟩
  have HB := hid (HW.out.trans (hb.mono HW.out.size))
  clear hv hb AC
  go_wp2_with fail
  go_ret
  exact ⟨_, rfl, HB.out⟩
set_option maxHeartbeats 1600000 in
theorem note_any (h : Wz B G W wb x p) (hE : Env8 W Ad) (k id c v0 v1 v2 v3 t : Int) (ad : Option Addr) (nn cc : Nat) (n o : Int) :
    Calls Tryz.prog 58 #[.pointer (some ⟨wb, 0, none⟩), uV k id c v0 v1 v2 v3 t ad nn cc n o] W fun e W' => e = .returned (.tuple #[]) ∧ Below W.heap.size W W' := by
  obtain ⟨wa, hwa⟩ : ∃ wa, wa = W.alloc (.cells #[.int .i64 k, .int .i64 id, .int .i64 c, .int .i64 v0, .int .i64 v1, .int .i64 v2, .int .i64 v3, .int .i64 t, .slice ad nn cc, .int .i64 n, .int .i64 o] 130) := ⟨_, rfl⟩
  have ba : Below W.heap.size W wa := by rw [hwa]; exact bAl _ _
  have HX : wa.heap[W.heap.size]? = some (.cells #[.int .i64 k, .int .i64 id, .int .i64 c, .int .i64 v0, .int .i64 v1, .int .i64 v2, .int .i64 v3, .int .i64 t, .slice ad nn cc, .int .i64 n, .int .i64 o] 130 (0, 0)) := by rw [hwa]; exact heap_alloc_new W _
  have ha := h.later ba
  have NT : Hid (∀ w1, Below wa.heap.size wa w1 → Calls Tryz.prog 109 #[.pointer none, uV k id c v0 v1 v2 v3 t ad nn cc n o] w1 fun e w' => ∃ ev, e = .returned ev ∧ Below wa.heap.size wa w') := by
    refine hid fun w1 hb1 => (jnote_nil (hE.later (ba.trans (hb1.mono ba.size))) k id c v0 v1 v2 v3 t ad nn cc n o).mono ?_
    rintro e w' ⟨ev, e1, hb⟩
    exact ⟨ev, e1, hb1.trans (hb.mono hb1.size)⟩
  unfold uV at NT ⊢
  have KK : Hid (∀ W', Below wa.heap.size wa W' → W'.cell? ⟨wb, 6, none⟩ = some (.pointer none) ∧ W'.cell? ⟨W.heap.size, 0, none⟩ = some (.int .i64 k) ∧ W'.cell? ⟨W.heap.size, 1, none⟩ = some (.int .i64 id) ∧ W'.cell? ⟨W.heap.size, 2, none⟩ = some (.int .i64 c) ∧ W'.cell? ⟨W.heap.size, 3, none⟩ = some (.int .i64 v0) ∧ W'.cell? ⟨W.heap.size, 4, none⟩ = some (.int .i64 v1) ∧ W'.cell? ⟨W.heap.size, 5, none⟩ = some (.int .i64 v2) ∧ W'.cell? ⟨W.heap.size, 6, none⟩ = some (.int .i64 v3) ∧ W'.cell? ⟨W.heap.size, 7, none⟩ = some (.int .i64 t) ∧ W'.cell? ⟨W.heap.size, 8, none⟩ = some (.slice ad nn cc) ∧ W'.cell? ⟨W.heap.size, 9, none⟩ = some (.int .i64 n) ∧ W'.cell? ⟨W.heap.size, 10, none⟩ = some (.int .i64 o)) := fun W' hb => by
    have q := blk_seen hb (Nat.le_refl _) HX
    exact ⟨(ha.later hb).cell (j := 6) rfl, cell_blk q rfl, cell_blk q rfl, cell_blk q rfl, cell_blk q rfl, cell_blk q rfl, cell_blk q rfl, cell_blk q rfl, cell_blk q rfl, cell_blk q rfl, cell_blk q rfl, cell_blk q rfl⟩
  have HWA := hid hwa
  have HBA := hid ba
  clear hwa ba ha h hE HX
  go_enter Tryz.func58, Tryz.ntmps58
  go_upto_region 1 with fail
  rw [← HWA.out]
  go_region_held3 (fun W' => W'.cell? ⟨wb, 6, none⟩ = some (.pointer none) ∧ W'.cell? ⟨W.heap.size, 0, none⟩ = some (.int .i64 k) ∧ W'.cell? ⟨W.heap.size, 1, none⟩ = some (.int .i64 id) ∧ W'.cell? ⟨W.heap.size, 2, none⟩ = some (.int .i64 c) ∧ W'.cell? ⟨W.heap.size, 3, none⟩ = some (.int .i64 v0) ∧ W'.cell? ⟨W.heap.size, 4, none⟩ = some (.int .i64 v1) ∧ W'.cell? ⟨W.heap.size, 5, none⟩ = some (.int .i64 v2) ∧ W'.cell? ⟨W.heap.size, 6, none⟩ = some (.int .i64 v3) ∧ W'.cell? ⟨W.heap.size, 7, none⟩ = some (.int .i64 t) ∧ W'.cell? ⟨W.heap.size, 8, none⟩ = some (.slice ad nn cc) ∧ W'.cell? ⟨W.heap.size, 9, none⟩ = some (.int .i64 n) ∧ W'.cell? ⟨W.heap.size, 10, none⟩ = some (.int .i64 o))
    (first | exact KK.out _ (by assumption) | exact KK.out _ (Below.refl _ _).drew | exact KK.out _ (Below.refl _ _))
    (first | (go_at_call 109; refine (NT.out _ (Below.refl _ _).drew).mono ?_; rintro e w1 ⟨ev, rfl, hb⟩) | fail)
  have HG := hid (HBA.out.trans (hb.mono HBA.out.size))
  clear hb NT KK
  go_wp2_with fail
  go_end0
  exact ⟨rfl, HG.out⟩
set_option maxHeartbeats 1600000 in
/-- What is noted of a part. -/
theorem rolled_any (h : Wz B G W wb x p) (hE : Env8 W Ad) (k id c v0 v1 v2 v3 t : Int) (ad : Option Addr) (nn cc : Nat) (n o : Int) :
    Calls Tryz.prog 143 #[.pointer (some ⟨wb, 0, none⟩), uV k id c v0 v1 v2 v3 t ad nn cc n o] W fun e W' => e = .returned (.tuple #[]) ∧ Below W.heap.size W W' := by
  obtain ⟨wa, hwa⟩ : ∃ wa, wa = W.alloc (.cells #[.int .i64 k, .int .i64 id, .int .i64 c, .int .i64 v0, .int .i64 v1, .int .i64 v2, .int .i64 v3, .int .i64 t, .slice ad nn cc, .int .i64 n, .int .i64 o] 130) := ⟨_, rfl⟩
  have ba : Below W.heap.size W wa := by rw [hwa]; exact bAl _ _
  have HX : Hid (wa.heap[W.heap.size]? = some (.cells #[.int .i64 k, .int .i64 id, .int .i64 c, .int .i64 v0, .int .i64 v1, .int .i64 v2, .int .i64 v3, .int .i64 t, .slice ad nn cc, .int .i64 n, .int .i64 o] 130 (0, 0))) := by rw [hwa]; exact heap_alloc_new W _
  have ha := h.later ba
  have RB := hid (rolls_any ha c)
  have NT : Hid (Calls Tryz.prog 58 #[.pointer (some ⟨wb, 0, none⟩), uV k id c v0 v1 v2 v3 t ad nn cc n o] wa fun e w' => e = .returned (.tuple #[]) ∧ Below W.heap.size W w') := by
    refine hid ((note_any ha (hE.later ba) k id c v0 v1 v2 v3 t ad nn cc n o).mono ?_)
    rintro e w' ⟨e1, hb⟩
    exact ⟨e1, ba.trans (hb.mono ba.size)⟩
  unfold uV at NT ⊢
  have x0 := cell_blk (j := 0) HX.out rfl
  have x1 := cell_blk (j := 1) HX.out rfl
  have x2 := cell_blk (j := 2) HX.out rfl
  have x3 := cell_blk (j := 3) HX.out rfl
  have x4 := cell_blk (j := 4) HX.out rfl
  have x5 := cell_blk (j := 5) HX.out rfl
  have x6 := cell_blk (j := 6) HX.out rfl
  have x7 := cell_blk (j := 7) HX.out rfl
  have x8 := cell_blk (j := 8) HX.out rfl
  have x9 := cell_blk (j := 9) HX.out rfl
  have x10 := cell_blk (j := 10) HX.out rfl
  have HST := hid ba
  have HWA := hid hwa
  clear hwa ba ha h hE HX
  generalize rolledB x.cs c = rb at RB
  go_enter Tryz.func143, Tryz.ntmps143
  go_upto_region 1 with fail
  rw [← HWA.out]
  go_wp2_with fail
  refine RB.out.mono ?_
  rintro e w1 ⟨rfl, rfl⟩
  cases rb with
  | false =>
    go_wp2_with fail
    go_end0
    exact ⟨rfl, HST.out⟩
  | true =>
    go_wp2_with fail
    refine NT.out.mono ?_
    rintro e w1 ⟨rfl, k1⟩
    have HG := hid k1
    clear NT k1
    go_wp2_with fail
    go_end0
    exact ⟨rfl, HG.out⟩
/-- What a step of a world leaves. -/
def GoZ (B : Nat) (G : Own) (W W' : World) (wb : Nat) (x : WX) (p' : WP) : Prop := ∃ G', Up (fun i => 1 ≤ i ∧ i ≤ 3) G G' W W' ∧ Wz B G' W' wb x p'
theorem GoZ.stay (h : Wz B G W wb x p) (hb : Below W.heap.size W W') : GoZ B G W W' wb x p := ⟨G, Up.later h.fin hb, h.later hb⟩
end
end Go.Proofs.YthadfdbkkmmgoaaGreatDoor.Wo
namespace Go.Proofs.YthadfdbkkmmgoaaGreatDoor.Wo
open Go.RowKit Go.Shelf Go.Maps
open Go.Proofs.YthadfdbkkmmgoaaGreatDoor.At (St bAl cell_blk blk_seen blk_free)
open Go.Proofs.YthadfdbkkmmgoaaGreatDoor.Rs (SD Prt Prts PRow fitP remP insP)
open Go.Proofs.YthadfdbkkmmgoaaGreatDoor.So (Er al rowed entered setQ sortP chkL putP)
open Go.Proofs.YthadfdbkkmmgoaaGreatDoor.Bd (Prs okP who num ins del)
open Go.Proofs.YthadfdbkkmmgoaaGreatDoor.Sc (Cmp)
/-- A world's error, by its number, of a depth that is bounded. -/
def Ed (Ad : Nat → Addr) (w : World) (v : Value) (K n : Nat) : Prop := (K = 0 ∧ v = .nilIface) ∨ (K ≠ 0 ∧ ∃ t q, v = .iface t q ∧ ∃ d, At.Err Ad w v K d ∧ d ≤ n)
section
variable {Ad : Nat → Addr} {w w' : World} {v : Value} {K n m : Nat}
theorem Ed.later (h : Ed Ad w v K n) (hb : Below w.heap.size w w') : Ed Ad w' v K n := h.imp id fun ⟨h0, t, q, e, d, k1, k2⟩ => ⟨h0, t, q, e, d, k1.later hb, k2⟩
theorem Ed.up (h : Ed Ad w v K n) (hn : n ≤ m := by omega) : Ed Ad w v K m := h.imp id fun ⟨h0, t, q, e, d, k1, k2⟩ => ⟨h0, t, q, e, d, k1, Nat.le_trans k2 hn⟩
theorem Ed.no (Ad : Nat → Addr) (w : World) (n : Nat) : Ed Ad w .nilIface 0 n := .inl ⟨rfl, rfl⟩
theorem Ed.nil (h : Ed Ad w v 0 n) : v = .nilIface := h.elim (fun q => q.2) fun q => absurd rfl q.1
theorem Ed.ifc (h : Ed Ad w v K n) (h0 : K ≠ 0) : ∃ t q, v = .iface t q := h.elim (fun q => absurd q.1 h0) fun ⟨_, t, q, e, _⟩ => ⟨t, q, e⟩
theorem Ed.err (h : Ed Ad w v K n) (h0 : K ≠ 0) : ∃ d, At.Err Ad w v K d := h.elim (fun q => absurd q.1 h0) fun ⟨_, _, _, _, d, k, _⟩ => ⟨d, k⟩
theorem Ed.leaf (Ad : Nat → Addr) (w : World) (k : Nat) (hk : 1 ≤ k ∧ k ≤ 18) : Ed Ad w (.iface 330 (.pointer (some (Ad k)))) k 0 :=
  .inr ⟨by omega, _, _, rfl, 0, At.err_leaf Ad w k hk, Nat.le_refl _⟩
theorem Er.ed {k : Nat} (h : Er Ad w v k n) : Ed Ad w v k n := by
  rcases h with ⟨rfl, rfl⟩ | ⟨h0, t, q, rfl, d, ws, hc⟩
  · exact Ed.no _ _ _
  · exact .inr ⟨h0, t, q, rfl, min d n, ⟨ws, hc⟩, Nat.min_le_right _ _⟩
/-- The error somewhere. -/
theorem at_ed (s : ByteArray) (h : Ed Ad w v K n) : Calls Tryz.prog 38 #[.string s, v] w fun e w' => ∃ v', e = .returned v' ∧ Ed Ad w' v' K (n + 1) ∧ Below w.heap.size w w' := by
  rcases h with ⟨rfl, rfl⟩ | ⟨h0, t, q, rfl, d, k1, k2⟩
  · refine (at_nil s w).mono ?_
    rintro e w' ⟨rfl, rfl⟩
    exact ⟨_, rfl, Ed.no _ _ _, Below.refl _ _⟩
  · refine (At.at_err Ad s _ K d w k1).mono ?_
    rintro e w' ⟨t', q', rfl, k3, k4⟩
    exact ⟨_, rfl, .inr ⟨h0, _, _, rfl, d + 1, k3, by omega⟩, k4⟩
theorem at_es (s : ByteArray) (h : Ed Ad w v K n) (h0 : K ≠ 0) : Calls Tryz.prog 38 #[.string s, v] w fun e w' => ∃ t q, e = .returned (.iface t q) ∧ Ed Ad w' (.iface t q) K (n + 1) ∧ Below w.heap.size w w' := by
  refine (at_ed s h).mono ?_
  rintro e w' ⟨v', rfl, k1, k2⟩
  obtain ⟨t, q, rfl⟩ := k1.ifc h0
  exact ⟨t, q, rfl, k1, k2⟩
end
/-- The sentinels lie below B, and B was all there was. -/
def Ev (B : Nat) (W : World) (Ad : Nat → Addr) : Prop := ∃ W0, Env8 W0 Ad ∧ W0.heap.size ≤ B ∧ Below W0.heap.size W0 W
theorem Ev.env {B : Nat} {W : World} {Ad : Nat → Addr} (h : Ev B W Ad) : Env8 W Ad := by
  obtain ⟨W0, h1, h2, h3⟩ := h
  exact h1.later h3
theorem Ev.bel {B : Nat} {W W' : World} {Ad : Nat → Addr} (h : Ev B W Ad) (hb : Below B W W') : Ev B W' Ad := by
  obtain ⟨W0, h1, h2, h3⟩ := h
  exact ⟨W0, h1, h2, h3.trans (hb.mono h2)⟩
theorem Ev.mono {B B' : Nat} {W : World} {Ad : Nat → Addr} (h : Ev B W Ad) (hB : B ≤ B') : Ev B' W Ad := by
  obtain ⟨W0, h1, h2, h3⟩ := h
  exact ⟨W0, h1, Nat.le_trans h2 hB, h3⟩
theorem Ev.of {W : World} {Ad : Nat → Addr} (h : Env8 W Ad) : Ev W.heap.size W Ad := ⟨W, h, Nat.le_refl _, Below.refl _ _⟩
theorem Ev.later {B : Nat} {W W' : World} {Ad : Nat → Addr} (h : Ev B W Ad) (hb : Below W.heap.size W W') : Ev B W' Ad := by
  obtain ⟨W0, h1, h2, h3⟩ := h
  exact ⟨W0, h1, h2, h3.trans (hb.mono h3.size)⟩
/-- A world, as beings say. -/
structure AP where
  L : Bgs
  n : Int
  fr : Int
  sd : Int
  gl : List Int
/-- What stays of a world: its kinds, their widths, how many there may be. -/
structure WK where
  x : WX
  ws : List Nat
  most : Nat
/-- A component. -/
def cmpAt (cs : List Cmp) (c : Int) : Option Cmp := if 0 ≤ c then cs[c.toNat]? else none
def dfP (k : Int) (c : Cmp) (f : Int) : Prt := ⟨k, c.d0, c.d1, c.d2, c.d3, f⟩
/-- A schema that can be. -/
structure WK.ok (k : WK) : Prop where
  len : k.x.cs.length = k.ws.length
  wd : ∀ (i : Nat) (c : Cmp), k.x.cs[i]? = some c → ∀ f, fitP k.ws (dfP (i : Int) c f) = true
structure Wa (B : Nat) (G : Own) (W : World) (wb : Nat) (k : WK) (t : Nat) (a : AP) : Prop where
  ex : ∃ p, Wd B G W wb k.x p ∧ p.t ≤ t ∧ p.s.ws = k.ws ∧ p.s.r.gens.length = k.most ∧ beings p.s p.l = a.L ∧ p.n = a.n ∧ p.fr = a.fr ∧ p.sd = a.sd ∧ p.gl = a.gl
  ok : k.ok
/-- What a call of a world leaves. -/
def GoA (B : Nat) (G : Own) (W W' : World) (wb : Nat) (k : WK) (t : Nat) (a : AP) : Prop := ∃ G', Up (fun i => 1 ≤ i ∧ i ≤ 3) G G' W W' ∧ Wa B G' W' wb k t a
section
variable {B : Nat} {G G' : Own} {W W' W2 : World} {wb : Nat} {k : WK} {t t' : Nat} {a a' : AP} {Ad : Nat → Addr}
theorem Wa.later (h : Wa B G W wb k t a) (hb : Below W.heap.size W W') : Wa B G W' wb k t a := by
  obtain ⟨⟨p, h1, h2⟩, h3⟩ := h
  exact ⟨⟨p, h1.later hb, h2⟩, h3⟩
theorem Wa.beside {T : Nat → Prop} (h : Wa B G W wb k t a) (hs : St T W W') (hd : ∀ k, G k ≠ 0 → ¬ T k) : Wa B G W' wb k t a := by
  obtain ⟨⟨p, h1, h2⟩, h3⟩ := h
  exact ⟨⟨p, ⟨h1.z.beside hs hd, h1.lv⟩, h2⟩, h3⟩
theorem Wa.older (h : Wa B G W wb k t a) (ht : t ≤ t') : Wa B G W wb k t' a := by
  obtain ⟨⟨p, h1, h2, h4⟩, h5⟩ := h
  exact ⟨⟨p, h1, by omega, h4⟩, h5⟩
theorem Wa.fin (h : Wa B G W wb k t a) : Fin B G W := by
  obtain ⟨⟨p, h1, -⟩, -⟩ := h
  exact h1.z.fin
theorem Wa.big (h : Wa B G W wb k t a) : B ≤ W.heap.size := by
  obtain ⟨⟨p, h1, -⟩, -⟩ := h
  exact h1.z.big
theorem GoA.stay (h : Wa B G W wb k t a) (hb : Below W.heap.size W W') : GoA B G W W' wb k t a := ⟨G, Up.later h.fin hb, h.later hb⟩
theorem GoA.bel (h : GoA B G W W' wb k t a) (hf : Fin B G W) (hB : B ≤ W.heap.size) : Below B W W' := by
  obtain ⟨G', h1, h2⟩ := h
  exact h1.bel hf hB (by decide)
theorem GoA.ev (h : GoA B G W W' wb k t a) (hf : Fin B G W) (hB : B ≤ W.heap.size) (hE : Ev B W Ad) : Ev B W' Ad := hE.bel (h.bel hf hB)
/-- Behind it nothing changes any more. -/
theorem GoA.later (h : GoA B G W W' wb k t a) (hb : Below W'.heap.size W' W2) : GoA B G W W2 wb k t a := by
  obtain ⟨G', h1, h2⟩ := h
  exact ⟨G', h1.trans (Up.later h2.fin hb), h2.later hb⟩
/-- Ahead of it nothing changed. -/
theorem GoA.after (hf : Fin B G W) (hb : Below W.heap.size W W') (h : GoA B G W' W2 wb k t a) : GoA B G W W2 wb k t a := by
  obtain ⟨G', h1, h2⟩ := h
  exact ⟨G', (Up.later hf hb).trans h1, h2⟩
end
end Go.Proofs.YthadfdbkkmmgoaaGreatDoor.Wo
namespace Go.Proofs.YthadfdbkkmmgoaaGreatDoor.Wo
open Go.RowKit Go.Shelf Go.Maps
open Go.Proofs.YthadfdbkkmmgoaaGreatDoor.At (St bAl cell_blk blk_seen blk_free)
open Go.Proofs.YthadfdbkkmmgoaaGreatDoor.Rs (SD Prt Prts PRow fitP remP insP)
open Go.Proofs.YthadfdbkkmmgoaaGreatDoor.So (Er al rowed entered setQ sortP chkL putP)
open Go.Proofs.YthadfdbkkmmgoaaGreatDoor.Bd (Prs okP who num ins del)
open Go.Proofs.YthadfdbkkmmgoaaGreatDoor.Sc (Cmp)
open Go.Proofs.YthadfdbkkmmgoaaGreatDoor.Co (I64)
def AP.get (a : AP) (id comp : Int) : Nat × Prt := match look a.L id with
  | none => (17, Prt.zero)
  | some row => match pick row comp with
    | none => (7, Prt.zero)
    | some q => (0, q)
def AP.insert (k : WK) (a : AP) (id comp : Int) : Nat × AP := match look a.L id with
  | none => (17, a)
  | some row => match cmpAt k.x.cs comp with
    | none => (1, a)
    | some c => match pick row comp with
      | some _ => (9, a)
      | none => (0, { a with L := setB a.L id (insP row (dfP comp c a.fr)) })
def AP.remove (a : AP) (id comp : Int) : Nat × AP := match look a.L id with
  | none => (17, a)
  | some row => match pick row comp with
    | none => (7, a)
    | some _ => (0, { a with L := setB a.L id (remP row comp) })
section
variable {B : Nat} {G G' : Own} {W W' : World} {wb : Nat} {k : WK} {x : WX} {p : WP} {t t' : Nat} {a a' : AP} {Ad : Nat → Addr}
/-- Where somebody stands. -/
theorem Wd.stand (h : Wd B G W wb x p) {id : Int} {row : List Prt} (hl : look (beings p.s p.l) id = some row) : ∃ i g : Nat, who p.l id = some ((i : Int), (g : Int)) ∧ al p.s i g ∧ p.s.at i = row := by
  rw [look_beings] at hl
  cases hw : who p.l id with
  | none => rw [hw] at hl; simp at hl
  | some e =>
    obtain ⟨i, g, rfl, ha, -⟩ := h.lv.at h.z.ok hw
    rw [hw] at hl
    exact ⟨i, g, rfl, ha, by simpa using hl⟩
theorem Wd.nobody {id : Int} (hl : look (beings p.s p.l) id = none) : who p.l id = none := by
  rw [look_beings] at hl
  simpa using hl
theorem find_no (h : Wa B G W wb k t a) (hE : Env8 W Ad) (id : Int) (hi : I64 id) (hl : look a.L id = none) : Calls Tryz.prog 77 #[.pointer (some ⟨wb, 0, none⟩), .int .i64 id] W fun e W' => e = .returned (.tuple #[.agg #[.int .i64 0, .int .i64 0], .iface 330 (.pointer (some (Ad 17)))]) ∧ Below W.heap.size W W' := by
  obtain ⟨⟨p, h1, -, -, -, h2, -⟩, -⟩ := h
  rw [← h2] at hl
  exact find_dead h1.z hE id hi (Wd.nobody hl)
/-- What is known of who is there. -/
structure Stands (B : Nat) (G : Own) (W : World) (wb : Nat) (k : WK) (t : Nat) (a : AP) (id : Int) (row : List Prt) (p : WP) (i g : Nat) : Prop where
  d : Wd B G W wb k.x p
  t' : p.t ≤ t
  ws : p.s.ws = k.ws
  gens : p.s.r.gens.length = k.most
  L : beings p.s p.l = a.L
  n : p.n = a.n
  fr : p.fr = a.fr
  sd : p.sd = a.sd
  gl : p.gl = a.gl
  wh : who p.l id = some ((i : Int), (g : Int))
  al : So.al p.s i g
  at' : p.s.at i = row
theorem Wa.stands (h : Wa B G W wb k t a) {id : Int} {row : List Prt} (hl : look a.L id = some row) : ∃ p i g, Stands B G W wb k t a id row p i g := by
  obtain ⟨⟨p, h1, h2, h3, h4, h5, h6⟩, -⟩ := h
  obtain ⟨i, g, q1, q2, q3⟩ := h1.stand (by rw [h5]; exact hl)
  exact ⟨p, i, g, h1, h2, h3, h4, h5, h6.1, h6.2.1, h6.2.2.1, h6.2.2.2, q1, q2, q3⟩
/-- A being's parts changed. -/
theorem Stands.go {id : Int} {row r : List Prt} {i g : Nat} (h : Stands B G W wb k t a id row p i g) (hk : k.ok) (hg : Go1 B G W W' k.x.sb (entered p.s i r) p.t) : GoA B G W W' wb k t { a with L := setB a.L id r } := by
  obtain ⟨G', u1, u2, u3⟩ := hg
  have z := h.d.z.store u1 u2 u3
  refine ⟨G', u1.mono (fun i e => by subst e; decide), ⟨_, ⟨z, h.d.lv.entered i r⟩, h.t', h.ws, h.gens, ?_, h.n, h.fr, h.sd, h.gl⟩, hk⟩
  rw [← h.L]
  exact beings_entered h.d.lv h.d.z.ok h.wh h.al
end
end Go.Proofs.YthadfdbkkmmgoaaGreatDoor.Wo
namespace Go.Proofs.YthadfdbkkmmgoaaGreatDoor.Wo
open Go.RowKit Go.Shelf Go.Maps
open Go.Proofs.YthadfdbkkmmgoaaGreatDoor.At (St bAl cell_blk blk_seen blk_free)
open Go.Proofs.YthadfdbkkmmgoaaGreatDoor.Rs (SD Prt Prts PRow fitP remP insP)
open Go.Proofs.YthadfdbkkmmgoaaGreatDoor.So (Er al rowed entered setQ sortP chkL putP)
open Go.Proofs.YthadfdbkkmmgoaaGreatDoor.Bd (Prs okP who num ins del)
open Go.Proofs.YthadfdbkkmmgoaaGreatDoor.Sc (Cmp)
open Go.Proofs.YthadfdbkkmmgoaaGreatDoor.Co (I64)
section
variable {B : Nat} {G G' : Own} {W W' : World} {wb : Nat} {k : WK} {x : WX} {p : WP} {t t' : Nat} {a a' : AP} {Ad : Nat → Addr}
theorem cmpAt_some {cs : List Cmp} {c : Int} {q : Cmp} (h : cmpAt cs c = some q) : ∃ m : Nat, c = (m : Int) ∧ cs[m]? = some q := by
  unfold cmpAt at h
  split at h
  · exact ⟨c.toNat, by omega, h⟩
  · simp at h
theorem cmpAt_none {cs : List Cmp} {c : Int} (h : cmpAt cs c = none) : c < 0 ∨ (cs.length : Int) ≤ c := by
  unfold cmpAt at h
  split at h
  · rw [List.getElem?_eq_none_iff] at h; omega
  · omega
theorem Wz.kinds (h : Wz B G W wb x p) : ∃ b o n c, x.kv = .slice b n c ∧ n = x.cs.length ∧ b = o ∧ W.cell? ⟨wb, 0, none⟩ = some (.slice b n c) ∧ W.cell? ⟨wb, 1, none⟩ = some (.slice none 0 0) ∧ W.cell? ⟨wb, 7, none⟩ = some (.int .i64 p.fr) ∧ W.cell? ⟨wb, 3, none⟩ = some (.pointer (some ⟨x.sb, 0, none⟩)) := by
  obtain ⟨b, c, h1, -⟩ := h.kin
  exact ⟨b, b, _, c, h1, rfl, rfl, h1 ▸ h.cell (j := 0) rfl, h.cell (j := 1) rfl, h.cell (j := 7) rfl, h.cell (j := 3) rfl⟩
/-- A new block. -/
theorem blk_new {W w1 : World} (hb : Below W.heap.size W w1) (o : Obj) : ∃ w2, w2 = w1.alloc o ∧ Below W.heap.size W w2 ∧ w2.heap[w1.heap.size]? = some o ∧ Below w1.heap.size w1 w2 :=
  ⟨_, rfl, hb.trans ((bAl w1 o).mono hb.size), heap_alloc_new w1 o, bAl w1 o⟩
set_option maxHeartbeats 1600000 in
theorem insert_dead (h : Wa B G W wb k t a) (hE : Ev B W Ad) (id comp : Int) (hi : I64 id) (hl : look a.L id = none) :
    Calls Tryz.prog 98 #[.pointer (some ⟨wb, 0, none⟩), .int .i64 id, .int .i64 comp] W fun e W' => ∃ r, e = .returned r ∧ Ed Ad W' r 17 1 ∧ Below W.heap.size W W' := by
  have FN := hid (find_no h hE.env id hi hl)
  clear h hE
  go_enter Tryz.func98, Tryz.ntmps98
  go_wp2_with fail
  refine FN.out.mono ?_
  rintro e w1 ⟨rfl, hb⟩
  have HB := hid (hb.trans ((bAl w1 (.cells #[.int .i64 0, .int .i64 0] 144)).mono hb.size))
  clear hb FN
  go_wp2_with fail
  refine (at_es _ (Ed.leaf Ad _ 17 (by decide)) (by decide)).mono ?_
  rintro e w2 ⟨tt, qq, rfl, k1, k2⟩
  have HK := hid k1
  have HB2 := hid (HB.out.trans (k2.mono HB.out.size))
  clear k1 k2
  go_wp2_with fail
  go_ret
  exact ⟨_, rfl, HK.out, HB2.out⟩
/-- The zero block of a part. -/
abbrev zP : Obj := .cells #[.int .i64 0, .int .i64 0, .int .i64 0, .int .i64 0, .int .i64 0, .int .i64 0] 89
/-- What two calls answer, one behind the other; what they leave. -/
def insK (K1 K2 : Nat) : Nat := if K1 = 0 then K2 else K1
def InsR (B : Nat) (G : Own) (W : World) (wb : Nat) (k : WK) (t : Nat) (A' : AP) (K1 K2 : Nat) (W' : World) : Prop := (K1 = 0 ∧ K2 = 0 → GoA B G W W' wb k t A') ∧ (K1 ≠ 0 ∨ K2 ≠ 0 → Below W.heap.size W W')
set_option maxHeartbeats 6400000 in
theorem insert_gen (h : Wa B G W wb k t a) (hE : Ev B W Ad) (id comp : Int) (hi : I64 id) {row : List Prt} {i g : Nat} (s : Stands B G W wb k t a id row p i g) (pt : Prt) (er : Value) (K1 K2 : Nat) (A' : AP) (her : ∀ w, Ed Ad w er K1 0)
    (HN0 : ∀ w, Below W.heap.size W w → Calls Tryz.prog 140 #[.agg #[k.x.kv, .slice none 0 0], .int .i64 comp, .int .i64 p.fr] w fun e w' => e = .returned (.tuple #[.agg #[.int .i64 pt.c, .int .i64 pt.v0, .int .i64 pt.v1, .int .i64 pt.v2, .int .i64 pt.v3, .int .i64 pt.t], er]) ∧ Below w.heap.size w w')
    (HI0 : K1 = 0 → ∀ w, Below W.heap.size W w → Calls Tryz.prog 142 #[.pointer (some ⟨k.x.sb, 0, none⟩), .agg #[.int .i64 (i : Int), .int .i64 (g : Int)], .agg #[.int .i64 pt.c, .int .i64 pt.v0, .int .i64 pt.v1, .int .i64 pt.v2, .int .i64 pt.v3, .int .i64 pt.t]] w fun e w' => ∃ r, e = .returned r ∧ Ed Ad w' r K2 9 ∧ (K2 ≠ 0 → Below w.heap.size w w') ∧ (K2 = 0 → GoA B G w w' wb k t A')) :
    Calls Tryz.prog 98 #[.pointer (some ⟨wb, 0, none⟩), .int .i64 id, .int .i64 comp] W fun e W' => ∃ r, e = .returned r ∧ Ed Ad W' r (insK K1 K2) 10 ∧ InsR B G W wb k t A' K1 K2 W' := by
  have FN := hid (find_ok s.d.z id i g hi s.wh)
  obtain ⟨kb, -, kn, kc, hkv, -, -, -⟩ := s.d.z.kinds
  have HN : Hid (∀ w, Below W.heap.size W w → Calls Tryz.prog 140 #[.agg #[.slice kb kn kc, .slice none 0 0], .int .i64 comp, .int .i64 p.fr] w fun e w' => e = .returned (.tuple #[.agg #[.int .i64 pt.c, .int .i64 pt.v0, .int .i64 pt.v1, .int .i64 pt.v2, .int .i64 pt.v3, .int .i64 pt.t], er]) ∧ Below w.heap.size w w' ∧ Below W.heap.size W w') := hid fun w hb => by
    rw [← hkv]
    refine (HN0 w hb).mono ?_
    rintro e w' ⟨rfl, q2⟩
    exact ⟨rfl, q2, hb.trans (q2.mono hb.size)⟩
  have HI : Hid (K1 = 0 → ∀ w, Below W.heap.size W w → Calls Tryz.prog 142 #[.pointer (some ⟨k.x.sb, 0, none⟩), .agg #[.int .i64 (i : Int), .int .i64 (g : Int)], .agg #[.int .i64 pt.c, .int .i64 pt.v0, .int .i64 pt.v1, .int .i64 pt.v2, .int .i64 pt.v3, .int .i64 pt.t]] w fun e w' => ∃ r, e = .returned r ∧ Hid (Ed Ad w' r K2 9) ∧ Hid (K2 ≠ 0 → Below W.heap.size W w') ∧ Hid (K2 = 0 → GoA B G W w' wb k t A') ∧ w'.cell? ⟨wb, 3, none⟩ = some (.pointer (some ⟨k.x.sb, 0, none⟩)) ∧ ∀ b o, W.heap.size ≤ b → w.heap[b]? = some o → w'.heap[b]? = some o) := hid fun h1 w hb => by
    refine (HI0 h1 w hb).mono ?_
    rintro e w' ⟨r, rfl, q1, q2, q3⟩
    have st : St (fun j => 1 ≤ G j ∧ G j ≤ 3) w w' := by
      by_cases h2 : K2 = 0
      · obtain ⟨G', u, -⟩ := q3 h2
        exact u.st
      · exact St.of_below (q2 h2)
    refine ⟨r, rfl, q1, fun h2 => hb.trans ((q2 h2).mono hb.size), fun h2 => GoA.after h.fin hb (q3 h2), cell_blk (st.at (s.d.later hb).z.box (by rw [(s.d.later hb).z.gw]; decide)) rfl, fun b o hB hbo => st.at hbo fun q => ?_⟩
    have := (h.fin b (by omega)).2
    omega
  have HER := hid her
  have HR : Hid (∀ w, GoA B G W w wb k t A' → Calls Tryz.prog 143 #[.pointer (some ⟨wb, 0, none⟩), uV 4 id comp 0 0 0 0 0 none 0 0 0 0] w fun e W' => e = .returned (.tuple #[]) ∧ Below w.heap.size w W') := hid fun w hg => by
    have ev := (hg.ev h.fin h.big hE).env
    obtain ⟨G', u1, ⟨⟨p', z, -⟩, -⟩⟩ := hg
    exact rolled_any z.z ev 4 id comp 0 0 0 0 0 none 0 0 0 0
  unfold uV at HR
  have KK : Hid (∀ w, Below W.heap.size W w → (w.cell? ⟨wb, 0, none⟩ = some (.slice kb kn kc) ∧ w.cell? ⟨wb, 1, none⟩ = some (.slice none 0 0) ∧ w.cell? ⟨wb, 7, none⟩ = some (.int .i64 p.fr)) ∧ w.cell? ⟨wb, 3, none⟩ = some (.pointer (some ⟨k.x.sb, 0, none⟩))) := hid fun w hb => ⟨⟨hkv ▸ (s.d.later hb).z.cell (j := 0) rfl, (s.d.later hb).z.cell (j := 1) rfl, (s.d.later hb).z.cell (j := 7) rfl⟩, (s.d.later hb).z.cell (j := 3) rfl⟩
  clear h hE s hkv HN0 HI0 her
  go_enter Tryz.func98, Tryz.ntmps98
  go_wp2_with fail
  refine FN.out.mono ?_
  rintro e w1 ⟨rfl, hb⟩
  obtain ⟨w2, hw2, b2, r2, -⟩ := blk_new hb (.cells #[.int .i64 (i : Int), .int .i64 (g : Int)] 144)
  have HW2 := hid hw2
  have R2 := hid r2
  have hb1 := hb.size
  clear hb FN hw2 r2
  go_upto_region 4 with fail
  rw [← HW2.out]
  have HNN := hid hb1
  generalize hN1 : w1.heap.size = N1 at *
  have b2a := b2.alloc b2.size zP
  have HNA : Hid (∀ w, w = (w2.alloc zP).drew → Calls Tryz.prog 140 #[.agg #[.slice kb kn kc, .slice none 0 0], .int .i64 comp, .int .i64 p.fr] w fun e w' => e = .returned (.tuple #[.agg #[.int .i64 pt.c, .int .i64 pt.v0, .int .i64 pt.v1, .int .i64 pt.v2, .int .i64 pt.v3, .int .i64 pt.t], er]) ∧ Below W.heap.size W w' ∧ w'.frozen? ⟨w2.heap.size, 0, none⟩ = false ∧ w'.frozen? ⟨w2.heap.size, 1, none⟩ = false ∧ w'.frozen? ⟨w2.heap.size, 2, none⟩ = false ∧ w'.frozen? ⟨w2.heap.size, 3, none⟩ = false ∧ w'.frozen? ⟨w2.heap.size, 4, none⟩ = false ∧ w'.frozen? ⟨w2.heap.size, 5, none⟩ = false ∧ w'.cell? ⟨w2.heap.size, 0, none⟩ = some (.int .i64 0) ∧ w'.cell? ⟨w2.heap.size, 1, none⟩ = some (.int .i64 0) ∧ w'.cell? ⟨w2.heap.size, 2, none⟩ = some (.int .i64 0) ∧ w'.cell? ⟨w2.heap.size, 3, none⟩ = some (.int .i64 0) ∧ w'.cell? ⟨w2.heap.size, 4, none⟩ = some (.int .i64 0) ∧ w'.cell? ⟨w2.heap.size, 5, none⟩ = some (.int .i64 0) ∧ Hid (w'.heap[w2.heap.size]? = some zP ∧ Below w2.heap.size w2 w')) := hid fun w hw => by
    subst hw
    have q0 : Below w2.heap.size w2 (w2.alloc zP).drew := (bAl w2 zP).drew
    refine (HN.out _ b2a.drew).mono ?_
    rintro e w' ⟨rfl, q2, q3⟩
    have z3 : w'.heap[w2.heap.size]? = some zP := blk_seen q2 (Nat.le_refl _) (heap_alloc_new w2 zP)
    exact ⟨rfl, q3, blk_free z3 0, blk_free z3 1, blk_free z3 2, blk_free z3 3, blk_free z3 4, blk_free z3 5, cell_blk z3 rfl, cell_blk z3 rfl, cell_blk z3 rfl, cell_blk z3 rfl, cell_blk z3 rfl, cell_blk z3 rfl, z3, q0.trans (q2.mono q0.size)⟩
  go_cut [8, 9] from 21 to 33 (fun ev pa wx => ∃ (N2 : Nat), ev = er ∧ pa = .pointer (some ⟨N2, 0, none⟩) ∧ Hid (W.heap.size ≤ N2 ∧ Below W.heap.size W wx ∧ wx.heap[N2]? = some (.cells pt.arr 89 (0, 0)) ∧ wx.heap[N1]? = some (.cells #[.int .i64 (i : Int), .int .i64 (g : Int)] 144 (0, 0))))
  case first =>
    rename_i J K' hJ hK
    obtain ⟨⟨c0, c1, c7⟩, c3⟩ := KK.out w2 b2
    have b2d := b2.drew
    have b2ad := b2a.drew
    have b2s := b2.size
    go_region_held3 (fun w => w.cell? ⟨wb, 0, none⟩ = some (.slice kb kn kc) ∧ w.cell? ⟨wb, 1, none⟩ = some (.slice none 0 0) ∧ w.cell? ⟨wb, 7, none⟩ = some (.int .i64 p.fr))
      (first | (refine (KK.out _ ?_).1; with_reducible (repeat' (first | assumption | exact b2s | exact Below.size (by assumption) | refine Below.setCell ?_ ?_ _ | refine Below.alloc ?_ ?_ _ | refine Below.drew ?_))) | fail)
      (first
        | (go_at_call 140; refine (HNA.out _ ?_).mono ?_; (with_reducible rfl); rintro e w3 ⟨rfl, b3, f0, f1, f2, f3, f4, f5, y0, y1, y2, y3, y4, y5, H3⟩)
        | (go_at_call 140; refine (HN.out _ (by assumption)).mono ?_; rintro e w3 ⟨rfl, l3, b3⟩)
        | fail)
    · clear HN HNA KK HI HR c0 c1 c7 c3
      exact hK _ _ (Met.intro (hJ _ _ ⟨_, _, _, _, _, _, _, _, _, _, _, _, _, _, _, ⟨_, rfl, rfl, b3.size, b3.alloc b3.size _, heap_alloc_new w3 _, blk_seen (bAl w3 _) (Nat.le_refl _) (blk_seen l3 (Nat.le_refl _) R2.out)⟩, rfl⟩))
    · obtain ⟨q1, q2⟩ := H3.out
      have S6 := Rs.six_set (q := Prt.zero) (p := pt) q1
      have hlt : N1 < w2.heap.size := (Array.getElem?_eq_some_iff.1 R2.out).1
      have e1 : (Rs.six w3 w2.heap.size pt).heap[N1]? = some (.cells #[.int .i64 (i : Int), .int .i64 (g : Int)] 144 (0, 0)) := ((S6.2 w2.heap.size (Nat.le_refl _)).block N1 hlt).trans (blk_seen q2 (Nat.le_refl _) R2.out)
      clear HN HNA KK HI HR c0 c1 c7 c3 f0 f1 f2 f3 f4 f5 y0 y1 y2 y3 y4 y5
      exact hK _ _ (Met.intro (hJ _ _ ⟨_, _, _, _, _, _, _, _, _, _, _, _, _, _, _, ⟨_, rfl, rfl, b2s, b3.trans ((S6.2 W.heap.size b2s)), S6.1, e1⟩, rfl⟩))
  case rest =>
    rename World => wx
    obtain ⟨N2, hev, rfl, HX⟩ := hcut
    subst hev
    obtain ⟨nx, bx, px, ex⟩ := HX.out
    have BX := hid bx
    by_cases h1 : K1 = 0
    · have H1 := hid h1
      clear h1
      rw [H1.out] at HER
      obtain rfl := (HER.out wx).nil
      have K4 : Hid (∀ w, Below wx.heap.size wx w → w.cell? ⟨wb, 3, none⟩ = some (.pointer (some ⟨k.x.sb, 0, none⟩)) ∧ w.cell? ⟨N1, 0, none⟩ = some (.int .i64 (i : Int)) ∧ w.cell? ⟨N1, 1, none⟩ = some (.int .i64 (g : Int)) ∧ w.cell? ⟨N2, 0, none⟩ = some (.int .i64 pt.c) ∧ w.cell? ⟨N2, 1, none⟩ = some (.int .i64 pt.v0) ∧ w.cell? ⟨N2, 2, none⟩ = some (.int .i64 pt.v1) ∧ w.cell? ⟨N2, 3, none⟩ = some (.int .i64 pt.v2) ∧ w.cell? ⟨N2, 4, none⟩ = some (.int .i64 pt.v3) ∧ w.cell? ⟨N2, 5, none⟩ = some (.int .i64 pt.t)) := hid fun w hb => by
        have q1 := blk_seen hb (Nat.le_refl _) ex
        have q2 := blk_seen hb (Nat.le_refl _) px
        exact ⟨(KK.out w (bx.trans (hb.mono bx.size))).2, cell_blk q1 rfl, cell_blk q1 rfl, cell_blk q2 rfl, cell_blk q2 rfl, cell_blk q2 rfl, cell_blk q2 rfl, cell_blk q2 rfl, cell_blk q2 rfl⟩
      have HI1 : Hid (∀ w, Below wx.heap.size wx w → Calls Tryz.prog 142 #[.pointer (some ⟨k.x.sb, 0, none⟩), .agg #[.int .i64 (i : Int), .int .i64 (g : Int)], .agg #[.int .i64 pt.c, .int .i64 pt.v0, .int .i64 pt.v1, .int .i64 pt.v2, .int .i64 pt.v3, .int .i64 pt.t]] w fun e w' => ∃ r, e = .returned r ∧ Hid (Ed Ad w' r K2 9) ∧ Hid (K2 ≠ 0 → Below W.heap.size W w') ∧ Hid (K2 = 0 → GoA B G W w' wb k t A') ∧ (w'.cell? ⟨wb, 3, none⟩ = some (.pointer (some ⟨k.x.sb, 0, none⟩)) ∧ w'.cell? ⟨N1, 0, none⟩ = some (.int .i64 (i : Int)) ∧ w'.cell? ⟨N1, 1, none⟩ = some (.int .i64 (g : Int)) ∧ w'.cell? ⟨N2, 0, none⟩ = some (.int .i64 pt.c) ∧ w'.cell? ⟨N2, 1, none⟩ = some (.int .i64 pt.v0) ∧ w'.cell? ⟨N2, 2, none⟩ = some (.int .i64 pt.v1) ∧ w'.cell? ⟨N2, 3, none⟩ = some (.int .i64 pt.v2) ∧ w'.cell? ⟨N2, 4, none⟩ = some (.int .i64 pt.v3) ∧ w'.cell? ⟨N2, 5, none⟩ = some (.int .i64 pt.t))) := hid fun w hb => by
        refine (HI.out H1.out w (bx.trans (hb.mono bx.size))).mono ?_
        rintro e w' ⟨r, rfl, q1, q2, q3, q4, q5⟩
        have e1 := q5 _ _ HNN.out (blk_seen hb (Nat.le_refl _) ex)
        have e2 := q5 _ _ nx (blk_seen hb (Nat.le_refl _) px)
        exact ⟨r, rfl, q1, q2, q3, q4, cell_blk e1 rfl, cell_blk e1 rfl, cell_blk e2 rfl, cell_blk e2 rfl, cell_blk e2 rfl, cell_blk e2 rfl, cell_blk e2 rfl, cell_blk e2 rfl⟩
      have bx0 : Below wx.heap.size wx wx := Below.refl _ _
      have bx1 := bx0.drew
      have bxd := bx.drew
      obtain ⟨k40, k41, k42, k43, k44, k45, k46, k47, k48⟩ := K4.out wx bx0
      clear px ex HX HN HNA KK HI b2 b2a R2 HW2
      go_upto_region 7 with fail
      go_region_held3 (fun w => w.cell? ⟨wb, 3, none⟩ = some (.pointer (some ⟨k.x.sb, 0, none⟩)) ∧ w.cell? ⟨N1, 0, none⟩ = some (.int .i64 (i : Int)) ∧ w.cell? ⟨N1, 1, none⟩ = some (.int .i64 (g : Int)) ∧ w.cell? ⟨N2, 0, none⟩ = some (.int .i64 pt.c) ∧ w.cell? ⟨N2, 1, none⟩ = some (.int .i64 pt.v0) ∧ w.cell? ⟨N2, 2, none⟩ = some (.int .i64 pt.v1) ∧ w.cell? ⟨N2, 3, none⟩ = some (.int .i64 pt.v2) ∧ w.cell? ⟨N2, 4, none⟩ = some (.int .i64 pt.v3) ∧ w.cell? ⟨N2, 5, none⟩ = some (.int .i64 pt.t))
        (first | (with_reducible assumption) | (refine K4.out _ ?_; with_reducible assumption) | fail)
        (first | (go_at_call 142; refine (HI1.out _ ?_).mono ?_; (with_reducible assumption); rintro e w5 ⟨r, rfl, HE5, HB5, HG5, hS⟩) | fail)
      clear hS k40 k41 k42 k43 k44 k45 k46 k47 k48 K4 HI1 bx bx0 bx1 bxd
      by_cases h2 : K2 = 0
      · have H2 := hid h2
        clear h2
        have hg := HG5.out H2.out
        have he := HE5.out
        rw [H2.out] at he
        obtain rfl := he.nil
        have NR := hid (HR.out w5 hg)
        have HG := hid hg
        clear hg he HR HE5
        go_wp2_with fail
        refine NR.out.mono ?_
        rintro e w6 ⟨rfl, hb⟩
        have HG6 := hid (HG.out.later hb)
        clear hb NR
        go_wp2_with fail
        go_ret
        exact ⟨_, rfl, by unfold insK; rw [if_pos H1.out, H2.out]; exact Ed.no _ _ _, fun _ => HG6.out, fun q => absurd q (by simp [H1.out, H2.out])⟩
      · have H2 := hid h2
        clear h2
        obtain ⟨t5, q5, rfl⟩ := HE5.out.ifc H2.out
        have HB := hid (HB5.out H2.out)
        clear HR HB5 HG5
        go_wp2_with fail
        refine (at_es _ HE5.out H2.out).mono ?_
        rintro e w6 ⟨tt, qq, rfl, k1, k2⟩
        have HK := hid k1
        have HB6 := hid (HB.out.trans (k2.mono HB.out.size))
        clear k1 k2
        go_wp2_with fail
        go_ret
        exact ⟨_, rfl, by unfold insK; rw [if_pos H1.out]; exact HK.out, fun q => absurd q.2 H2.out, fun _ => HB6.out⟩
    · have H1 := hid h1
      clear h1
      obtain ⟨t5, q5, rfl⟩ := (HER.out wx).ifc H1.out
      clear HI HR HN HNA KK px ex HX b2 b2a R2 HW2
      go_wp2_with fail
      refine (at_es _ (HER.out wx) H1.out).mono ?_
      rintro e w6 ⟨tt, qq, rfl, k1, k2⟩
      have HK := hid (Ed.up (m := 10) k1 (by decide))
      have HB6 := hid (BX.out.trans (k2.mono BX.out.size))
      clear k1 k2
      go_wp2_with fail
      go_ret
      exact ⟨_, rfl, by unfold insK; rw [if_neg H1.out]; exact HK.out, fun q => absurd q.1 H1.out, fun _ => HB6.out⟩
theorem insert_arg (h : Wa B G W wb k t a) (hE : Ev B W Ad) (id comp : Int) (hi : I64 id) {row : List Prt} (hl : look a.L id = some row) (hc : cmpAt k.x.cs comp = none) :
    Calls Tryz.prog 98 #[.pointer (some ⟨wb, 0, none⟩), .int .i64 id, .int .i64 comp] W fun e W' => ∃ r, e = .returned r ∧ Ed Ad W' r 1 10 ∧ Below W.heap.size W W' := by
  obtain ⟨p, i, g, s⟩ := h.stands hl
  refine (insert_gen h hE id comp hi s Prt.zero (.iface 330 (.pointer (some (Ad 1)))) 1 0 a (fun w => Ed.leaf Ad w 1 (by decide)) (fun w hb => ?_) (fun q => absurd q (by decide))).mono ?_
  · exact Sc.new_out Ad w (hE.env.later hb) k.x.kv (.slice none 0 0) ⟨_, _, _, rfl⟩ k.x.cs (s.d.later hb).z.kin (by have := s.d.z.few; omega) comp (cmpAt_none hc) p.fr
  · rintro e W' ⟨r, rfl, he, hr⟩
    exact ⟨r, rfl, he, hr.2 (.inl (by decide))⟩
theorem insert_twice (h : Wa B G W wb k t a) (hE : Ev B W Ad) (id comp : Int) (hi : I64 id) {row : List Prt} (hl : look a.L id = some row) {c : Cmp} (hc : cmpAt k.x.cs comp = some c) {q : Prt} (hq : pick row comp = some q) :
    Calls Tryz.prog 98 #[.pointer (some ⟨wb, 0, none⟩), .int .i64 id, .int .i64 comp] W fun e W' => ∃ r, e = .returned r ∧ Ed Ad W' r 9 10 ∧ Below W.heap.size W W' := by
  obtain ⟨p, i, g, s⟩ := h.stands hl
  obtain ⟨m, rfl, hm⟩ := cmpAt_some hc
  refine (insert_gen h hE id m hi s (dfP m c p.fr) .nilIface 0 9 a (fun w => Ed.no _ _ _) (fun w hb => ?_) (fun _ w hb => ?_)).mono ?_
  · exact Sc.new_in w k.x.kv (.slice none 0 0) ⟨_, _, _, rfl⟩ k.x.cs (s.d.later hb).z.kin (by have := s.d.z.few; omega) m c hm p.fr
  · refine (s_insert_twice (s.d.later hb).z.st (hE.env.later hb) s.al (dfP m c p.fr) q (by rw [s.ws]; exact h.ok.wd m c hm _) (by rw [s.at']; exact (pick_some hq).1) (pick_some hq).2).mono ?_
    rintro e w' ⟨r, rfl, he, hb2⟩
    exact ⟨r, rfl, Er.ed he, fun _ => hb2, fun q => absurd q (by decide)⟩
  · rintro e W' ⟨r, rfl, he, hr⟩
    exact ⟨r, rfl, he, hr.2 (.inr (by decide))⟩
theorem insert_ok (h : Wa B G W wb k t a) (hE : Ev B W Ad) (id comp : Int) (hi : I64 id) {row : List Prt} (hl : look a.L id = some row) {c : Cmp} (hc : cmpAt k.x.cs comp = some c) (hq : pick row comp = none) :
    Calls Tryz.prog 98 #[.pointer (some ⟨wb, 0, none⟩), .int .i64 id, .int .i64 comp] W fun e W' => e = .returned .nilIface ∧ GoA B G W W' wb k t { a with L := setB a.L id (insP row (dfP comp c a.fr)) } := by
  obtain ⟨p, i, g, s⟩ := h.stands hl
  obtain ⟨m, rfl, hm⟩ := cmpAt_some hc
  have hfr : I64 p.fr := Bd.I64_mid (by have := s.d.z.fr0; omega) (by have := s.d.z.fr0; omega)
  refine (insert_gen h hE id m hi s (dfP m c p.fr) .nilIface 0 0 { a with L := setB a.L id (insP row (dfP m c a.fr)) } (fun w => Ed.no _ _ _) (fun w hb => ?_) (fun _ w hb => ?_)).mono ?_
  · exact Sc.new_in w k.x.kv (.slice none 0 0) ⟨_, _, _, rfl⟩ k.x.cs (s.d.later hb).z.kin (by have := s.d.z.few; omega) m c hm p.fr
  · refine (s_insert (s.d.later hb).z.st (s.d.later hb).z.fin (hE.env.later hb) s.al (dfP m c p.fr) (by rw [s.ws]; exact h.ok.wd m c hm _) hfr (by rw [s.at']; exact pick_none hq)).mono ?_
    rintro e w' ⟨rfl, hg⟩
    have S2 : Stands B G w wb k t a id row p i g := ⟨s.d.later hb, s.t', s.ws, s.gens, s.L, s.n, s.fr, s.sd, s.gl, s.wh, s.al, s.at'⟩
    have e2 := S2.go (W' := w') h.ok hg
    rw [s.at', s.fr] at e2
    exact ⟨_, rfl, Ed.no _ _ _, fun q => absurd rfl q, fun _ => e2⟩
  · rintro e W' ⟨r, rfl, he, hr⟩
    obtain rfl := he.nil
    exact ⟨rfl, hr.1 ⟨rfl, rfl⟩⟩
end
end Go.Proofs.YthadfdbkkmmgoaaGreatDoor.Wo
