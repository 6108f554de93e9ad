/- A part of the proof. -/
import Derived.Test.YthadfdbkkmmgoaaGreatDoorMad
set_option maxHeartbeats 6400000
namespace Go.Proofs.YthadfdbkkmmgoaaGreatDoor.So
open Go.RowKit Go.Shelf Go.Maps
open Co (Pt)
open At (St add Atl Ints)
open Ro (RS Rol zae)
open Rs (SD okW zkf)
structure Gw (c c' : CV) (W W' : World) : Prop where
 st : St (fun k => c.f k ≠ (0, 0, 0)) W W'
 new : ∀ k, c'.f k ≠ (0, 0, 0) -> c.f k ≠ (0, 0, 0) \/ W.heap.size <= k
theorem Gw.trans {c c1 c2 : CV} {W W1 W2 : World} (h : Gw c c1 W W1) (k : Gw c1 c2 W1 W2) : Gw c c2 W W2 :=
 ⟨h.st.trans k.st fun x hx q => (h.new x q).elim id fun q' => by omega, fun x hx => (k.new x hx).elim (h.new x) fun q => .inr (Nat.le_trans h.st.size q)⟩
theorem Gw.of_below {c : CV} {W W' : World} (h : Below W.heap.size W W') : Gw c c W W' := ⟨St.of_below h, fun _ q => .inl q⟩
theorem Gw.zvx {C : Nat × Nat × Nat -> Prop} {c c' : CV} {W W' : World} (hr : Rec C c.f c'.f W.heap.size W'.heap.size) (hs : St (fun k => C (c.f k)) W W') (h0 : ¬ C (0, 0, 0)) : Gw c c' W W' := by
 refine ⟨⟨hs.os, hs.tape, hs.output, hs.size, fun k hk hn => hs.block k hk fun q => hn fun e => h0 (e ▸ q)⟩, fun k hk => ?_⟩
 by_cases q : C (c'.f k)
 ·exact (hr.new k q).imp (fun q e => h0 (e ▸ q)) id
 exact .inl (by rw [(hr.out _ hk q k).1 rfl]; exact hk)
section
variable {ex : Option Nat} {B : Nat} {W W' : World} {sb : Nat} {c : CV} {s : SD}
theorem Sto.roll (h : Sto ex B W sb c s) {S' : Nat -> Prop} {t' : Nat} {r' : RS} (hr : Rol B W' c.rb t' r' S') (hs : St (fun k => c.f k = (2, 0, 0)) W W') (hS : ∀ k, S' k -> c.f k = (2, 0, 0) \/ W.heap.size <= k) {ex' : Option Nat} (hlk : Lk ex' c.tab c.seat { s with r := r' }) (ht' : t' <= 900000) :
  ∃ f', Sto ex' B W' sb { c with f := f', t := t' } { s with r := r' } /\ Gw c { c with f := f', t := t' } W W' := by
 obtain ⟨f', h1, h2⟩ := zvg c.f (l := (2, 0, 0)) (by simp) (S := S') (N := W.heap.size) (N' := W'.heap.size) hS (fun k hk => (h.lt k hk).2) (fun k hk => (hr.lt k hk).2) hs.size
 refine ⟨f', ⟨hs.at h.box (by rw [h.fsb]; simp), zai h.wd hs fun k hk => by rw [h.fwv hk]; simp, ?_, zdw hr h1, hs.at h.seats (by rw [h.fsv]; simp), h.map.kept hs (by rw [h.ftm]; simp), ?_, ?_, ?_, h.okw, h.n2, hlk, fun k n hk => h.only k n (by rw [(h2.out _ (zan hk).1 (zan hk).2.2.1 k).1 rfl]; exact hk), ht'⟩, Gw.zvx (C := fun l => l = (2, 0, 0)) h2 hs (by simp)⟩
 ·exact zdq (h.atl.kept hs fun k hk q => by rw [hk] at q; simp at q) fun k => h2.out _ (by simp) (by simp) k
 ·intro n own hn
  obtain ⟨m, q1, q2⟩ := h.tabs n own hn
  exact ⟨m, q1, q2.move hs (fun k hk q => (zan hk).2.2.1 q) fun l hl k => h2.out l (zan hl).1 (zan hl).2.2.1 k⟩
 ·exact fun k => (h2.out _ (by simp) (by simp) k).trans (h.fp k)
 intro k hk
 refine ⟨?_, h2.lt k hk⟩
 by_cases e : f' k = (2, 0, 0)
 ·exact (hr.lt k ((h1 k).1 e)).1
 exact (h.lt k (by rw [(h2.out _ hk e k).1 rfl]; exact hk)).1
theorem zmu {l : List Nat} {n m x : Nat} (h : l[n]? = some x) : (add l m)[n]? = some x := (At.z0a m (List.getElem?_eq_some_iff.1 h).1).trans h
theorem Lk.note {tab : Nat -> Option (List (Nat × Nat))} {seat : List (Nat × Nat)} (h : Lk ex tab seat s) (m : Nat) : Lk ex tab seat { s with sets := add s.sets m } := by
 refine ⟨h.len, fun i g ha he => ?_, fun n own hn => ⟨(h.back n own hn).1, fun j i g e => ?_⟩, h.ok⟩
 ·obtain ⟨n, j, own, e1, e2, e3, e4⟩ := h.here i g ha he
  exact ⟨n, j, own, e1, e2, e3, zmu e4⟩
 obtain ⟨b1, b2, b3, b4⟩ := (h.back n own hn).2 j i g e
 exact ⟨b1, b2, b3, zmu b4⟩
theorem Sto.note (h : Sto ex B W sb c s) {S' : Nat -> Prop} {m : Nat} (hr : Atl B W' c.ab ⟨s.ws.length, add s.sets m⟩ S') (hs : St (fun k => c.f k = (3, 0, 0)) W W') (hS : ∀ k, S' k -> c.f k = (3, 0, 0) \/ W.heap.size <= k) :
  ∃ f', Sto ex B W' sb { c with f := f' } { s with sets := add s.sets m } /\ Gw c { c with f := f' } W W' := by
 obtain ⟨f', h1, h2⟩ := zvg c.f (l := (3, 0, 0)) (by simp) (S := S') (N := W.heap.size) (N' := W'.heap.size) hS (fun k hk => (h.lt k hk).2) (fun k hk => (hr.lt k hk).2) hs.size
 refine ⟨f', ⟨hs.at h.box (by rw [h.fsb]; simp), zai h.wd hs fun k hk => by rw [h.fwv hk]; simp, zdq hr h1, ?_, hs.at h.seats (by rw [h.fsv]; simp), h.map.kept hs (by rw [h.ftm]; simp), ?_, ?_, ?_, h.okw, h.n2, h.lk.note m, fun k n hk => h.only k n (by rw [(h2.out _ (zan hk).1 (zan hk).2.2.2 k).1 rfl]; exact hk), h.small⟩, Gw.zvx (C := fun l => l = (3, 0, 0)) h2 hs (by simp)⟩
 ·exact zdw (h.rol.kept (zkf hs) fun k hk q => by rw [hk] at q; simp at q) fun k => h2.out _ (by simp) (by simp) k
 ·intro n own hn
  obtain ⟨m', q1, q2⟩ := h.tabs n own hn
  exact ⟨m', zmu q1, q2.move hs (fun k hk q => (zan hk).2.2.2 q) fun l hl k => h2.out l (zan hl).1 (zan hl).2.2.2 k⟩
 ·exact fun k => (h2.out _ (by simp) (by simp) k).trans (h.fp k)
 intro k hk
 refine ⟨?_, h2.lt k hk⟩
 by_cases e : f' k = (3, 0, 0)
 ·exact (hr.lt k ((h1 k).1 e)).1
 exact (h.lt k (by rw [(h2.out _ hk e k).1 rfl]; exact hk)).1
end
structure Sx (ex : Option Nat) (B : Nat) (W : World) (sb : Nat) (c : CV) (s : SD) (n : Nat) (x : TV) (m : Nat) (own : List (Nat × Nat)) (rows : Nat -> List Pt) : Prop where
 box : W.heap[sb]? = some (.cells c.box 183 (0, 0))
 wd : Ints B W c.wv s.ws
 atl : Atl B W c.ab ⟨s.ws.length, s.sets⟩ (fun k => c.f k = (3, 0, 0))
 rol : Rol B W c.rb c.t s.r (fun k => c.f k = (2, 0, 0))
 seats : W.heap[c.sv]? = some (.cells (zae c.seat).toArray 267 (0, 0))
 map : PMap W c.tm (gput (zau c.tab c.tv) n (some x.tb))
 tabs : ∀ n' own', n' ≠ n -> c.tab n' = some own' -> ∃ m, s.sets[n']? = some m /\ Tb B W c.f n' (c.tv n') m s.ws own' (rowsOf s own')
 tb : Tb B W c.f n x m s.ws own rows
 set : s.sets[n]? = some m
 fp : ∀ k, c.f k = (1, 0, 0) ↔ k = sb \/ k = c.tm \/ k = c.sv \/ c.wv.ownBlock = some k
 lt : ∀ k, c.f k ≠ (0, 0, 0) -> B <= k /\ k < W.heap.size
 okw : okW s.ws
 n2 : s.p.length = 64
 lk : Lk ex c.tab c.seat s
 only : ∀ k n', cls n' (c.f k) -> n' = n \/ c.tab n' ≠ none
 small : c.t <= 900000
section
variable {ex : Option Nat} {B : Nat} {W W' : World} {sb : Nat} {c : CV} {s : SD} {n : Nat} {x : TV} {m : Nat} {own : List (Nat × Nat)} {rows : Nat -> List Pt}
theorem Sto.out (h : Sto ex B W sb c s) {n m : Nat} {own : List (Nat × Nat)} (hn : c.tab n = some own) (hm : s.sets[n]? = some m) : Sx ex B W sb c s n (c.tv n) m own (rowsOf s own) := by
 obtain ⟨m', q1, q2⟩ := h.tabs n own hn
 obtain rfl : m' = m := by rw [hm] at q1; simpa using q1.symm
 refine ⟨h.box, h.wd, h.atl, h.rol, h.seats, ?_, fun n' own' _ h' => h.tabs n' own' h', q2, hm, h.fp, h.lt, h.okw, h.n2, h.lk, fun k n' hk => .inr (h.only k n' hk), h.small⟩
 have e : gput (zau c.tab c.tv) n (some (c.tv n).tb) = zau c.tab c.tv := by
  funext k
  unfold gput
  by_cases e : k = n
  ·subst e; rw [if_pos rfl]; unfold zau; rw [hn]; rfl
  rw [if_neg e]
 rw [e]
 exact h.map
theorem Sx.fsb (h : Sx ex B W sb c s n x m own rows) : c.f sb = (1, 0, 0) := (h.fp _).2 (.inl rfl)
theorem Sx.ftm (h : Sx ex B W sb c s n x m own rows) : c.f c.tm = (1, 0, 0) := (h.fp _).2 (.inr (.inl rfl))
theorem Sx.fsv (h : Sx ex B W sb c s n x m own rows) : c.f c.sv = (1, 0, 0) := (h.fp _).2 (.inr (.inr (.inl rfl)))
theorem Sx.fwv (h : Sx ex B W sb c s n x m own rows) {k : Nat} (hk : c.wv.ownBlock = some k) : c.f k = (1, 0, 0) := (h.fp _).2 (.inr (.inr (.inr hk)))
theorem Sx.yal (h : Sx ex B W sb c s n x m own rows) {f' : Nat -> Nat × Nat × Nat} {ov' : Value} {own' : List (Nat × Nat)} {rows' : Nat -> List Pt} (ht : Tb B W' f' n ⟨x.tb, ov', x.cm, x.cb⟩ m s.ws own' rows') (hr : Rec (cls n) c.f f' W.heap.size W'.heap.size) (hs : St (fun k => cls n (c.f k)) W W') :
  Sx ex B W' sb { c with f := f' } s n ⟨x.tb, ov', x.cm, x.cb⟩ m own' rows' /\ Gw c { c with f := f' } W W' := by
 have nc : ∀ {k : Nat} {l : Nat × Nat × Nat}, c.f k = l -> ¬ cls n l -> ¬ cls n (c.f k) := fun e q => by rw [e]; exact q
 have n1 : ¬ cls n (1, 0, 0) := fun q => (zan q).2.1 rfl
 have n2 : ¬ cls n (2, 0, 0) := fun q => (zan q).2.2.1 rfl
 have n3 : ¬ cls n (3, 0, 0) := fun q => (zan q).2.2.2 rfl
 refine ⟨⟨hs.at h.box (nc h.fsb n1), zai h.wd hs fun k hk => nc (h.fwv hk) n1, ?_, ?_, hs.at h.seats (nc h.fsv n1), h.map.kept hs (nc h.ftm n1), ?_, ht, h.set, ?_, ?_, h.okw, h.n2, h.lk, ?_, h.small⟩, Gw.zvx (c := c) (c' := { c with f := f' }) hr hs (zdk n)⟩
 ·exact zdq (h.atl.kept hs fun k hk => nc hk n3) fun k => hr.out _ (by simp) n3 k
 ·exact zdw (h.rol.kept (zkf hs) fun k hk => nc hk n2) fun k => hr.out _ (by simp) n2 k
 ·intro n' own' hne h'
  obtain ⟨m', q1, q2⟩ := h.tabs n' own' hne h'
  exact ⟨m', q1, q2.move hs (fun k hk q => hne (zgy hk q)) fun l hl k => hr.out l (zan hl).1 (fun q => hne (zgy hl q)) k⟩
 ·exact fun k => (hr.out _ (by simp) n1 k).trans (h.fp k)
 ·intro k hk
  refine ⟨?_, hr.lt k hk⟩
  by_cases e : cls n (f' k)
  ·refine (hr.new k e).elim (fun q => (h.lt k (zan q).1).1) fun q => ?_
   have := h.lt sb (by rw [h.fsb]; simp)
   omega
  exact (h.lt k (by rw [(hr.out _ hk e k).1 rfl]; exact hk)).1
 intro k n' hk
 by_cases e : n' = n
 ·exact .inl e
 exact h.only k n' (by rw [(hr.out _ (zan hk).1 (fun q => e (zgy hk q)) k).1 rfl]; exact hk)
theorem Sx.later (h : Sx ex B W sb c s n x m own rows) (hb : Below W.heap.size W W') : Sx ex B W' sb c s n x m own rows := by
 have hs : St (fun _ => False) W W' := St.of_below hb
 exact ⟨hs.at h.box id, zai h.wd hs fun _ _ => id, h.atl.later hb, h.rol.later hb, hs.at h.seats id, h.map.kept hs id, fun n' own' hne h' => by
  obtain ⟨m', q1, q2⟩ := h.tabs n' own' hne h'
  exact ⟨m', q1, q2.later hb⟩, h.tb.later hb, h.set, h.fp, fun k hk => ⟨(h.lt k hk).1, Nat.lt_of_lt_of_le (h.lt k hk).2 hb.size⟩, h.okw, h.n2, h.lk, h.only, h.small⟩
end
end Go.Proofs.YthadfdbkkmmgoaaGreatDoor.So
namespace Go.Proofs.YthadfdbkkmmgoaaGreatDoor.So
open Go.RowKit Go.Shelf Go.Maps
open Co (Pt)
open At (St add)
open Ro (zae)
open Rs (Prt SD zkf)
def zhd (tv : Nat -> TV) (n : Nat) (x : TV) : Nat -> TV := fun k => if k = n then x else tv k
theorem zuh (tab : Nat -> Option (List (Nat × Nat))) (tv : Nat -> TV) (n : Nat) (x : TV) (own : List (Nat × Nat)) : zau (tput tab n (some own)) (zhd tv n x) = gput (zau tab tv) n (some x.tb) := by
 funext k
 unfold zau gput tput zhd
 by_cases e : k = n <;> simp [e]
theorem zos (l : List (Nat × Nat)) {i : Nat} (a b : Nat) : zae (l.set i (a, b)) = ((zae l).set (i * 2) (Ro.gI a)).set (i * 2 + 1) (Ro.gI b) := by
 induction l generalizing i with
 | nil => simp [zae]
 | cons p l ih =>
  have e : ∀ q : Nat × Nat, ∀ l, zae (q :: l) = Ro.gI q.1 :: Ro.gI q.2 :: zae l := fun q l => by simp [zae]
  cases i with
  | zero => simp [e]
  | succ i =>
   rw [List.set_cons_succ, e, e, ih, show (i + 1) * 2 = i * 2 + 1 + 1 by omega]
   simp
section
variable {ex ex' : Option Nat} {B : Nat} {W W' : World} {sb : Nat} {c : CV} {s s' : SD} {n : Nat} {x : TV} {m : Nat} {own : List (Nat × Nat)} {rows : Nat -> List Pt}
theorem Sx.back (h : Sx ex B W sb c s n x m own rows) {seat' : List (Nat × Nat)} (hseat : W'.heap[c.sv]? = some (.cells (zae seat').toArray 267 (0, 0))) (hs : St (fun k => k = c.sv) W W') (hlen : seat'.length = c.seat.length)
  (hws : s'.ws = s.ws) (hr : s'.r = s.r) (hsets : s'.sets = s.sets) (hp : s'.p.length = 64) (hlk : Lk ex' (tput c.tab n (some own)) seat' s') (hrows : ∀ q, m.testBit q = true -> rowsOf s' own q = rows q)
  (hrows' : ∀ n' own', n' ≠ n -> c.tab n' = some own' -> ∀ q, rowsOf s' own' q = rowsOf s own' q) : Sto ex' B W' sb { c with seat := seat', tab := tput c.tab n (some own), tv := zhd c.tv n x } s' := by
 have n1 : ∀ {k : Nat}, c.f k ≠ (1, 0, 0) -> k ≠ c.sv := fun q e => q (by rw [e]; exact h.fsv)
 have nsb : sb ≠ c.sv := fun e => by
  have := h.box
  rw [e, h.seats] at this
  simp at this
 refine ⟨?_, ?_, ?_, ?_, hseat, ?_, ?_, h.fp, fun k hk => ⟨(h.lt k hk).1, Nat.lt_of_lt_of_le (h.lt k hk).2 hs.size⟩, hws ▸ h.okw, hp, hlk, ?_, h.small⟩
 ·have : CV.box { c with seat := seat', tab := tput c.tab n (some own), tv := zhd c.tv n x } = c.box := by unfold CV.box; simp [hlen]
  rw [this]
  exact hs.at h.box nsb
 ·rw [hws]
  refine zai h.wd hs fun k hk e => ?_
  obtain ⟨q, hq⟩ := zbd h.wd hk
  rw [e, h.seats] at hq
  simp at hq
 ·rw [hws, hsets]
  exact h.atl.kept hs fun k hk e => n1 (by rw [hk]; simp) e
 ·rw [hr]
  exact h.rol.kept (zkf hs) fun k hk e => n1 (by rw [hk]; simp) e
 ·show PMap W' c.tm (zau (tput c.tab n (some own)) (zhd c.tv n x))
  rw [zuh]
  exact h.map.kept hs fun e => h.map.zcg h.seats e.symm
 ·intro n' own' hn
  change tput c.tab n (some own) n' = some own' at hn
  rw [hws, hsets]
  by_cases e : n' = n
  ·subst e
   rw [zcm] at hn
   obtain rfl : own = own' := by simpa using hn
   refine ⟨m, h.set, ?_⟩
   have : zhd c.tv n' x n' = x := by simp [zhd]
   show Tb B W' c.f n' (zhd c.tv n' x n') m s.ws own (rowsOf s' own)
   rw [this]
   exact (h.tb.move hs (fun k hk e => n1 (zan hk).2.1 e) fun _ _ _ => Iff.rfl).zpi hrows
  rw [zeu _ e] at hn
  obtain ⟨m', q1, q2⟩ := h.tabs n' own' e hn
  refine ⟨m', q1, ?_⟩
  have : zhd c.tv n x n' = c.tv n' := by simp [zhd, e]
  show Tb B W' c.f n' (zhd c.tv n x n') m' s.ws own' (rowsOf s' own')
  rw [this]
  exact (q2.move hs (fun k hk e => n1 (zan hk).2.1 e) fun _ _ _ => Iff.rfl).zpi fun q _ => hrows' n' own' e hn q
 intro k n' hk
 show tput c.tab n (some own) n' ≠ none
 by_cases e : n' = n
 ·subst e; rw [zcm]; simp
 rw [zeu _ e]; exact (h.only k n' hk).elim (fun q => absurd q e) id
theorem Sto.fresh (h : Sto ex B W sb c s) {n m : Nat} (hm : s.sets[n]? = some m) {x : TV} {f' : Nat -> Nat × Nat × Nat} {W1 W2 : World} (ht : Tb B W1 f' n x m s.ws [] (fun _ => [])) (hr : Rec (cls n) c.f f' W.heap.size W1.heap.size) (hb : Below W.heap.size W W1)
  (hp : PMap W2 c.tm (gput (zau c.tab c.tv) n (some x.tb))) (hs : St (fun k => k = c.tm) W1 W2) (hnt : c.tab n = none) : Sx ex B W2 sb { c with f := f' } s n x m [] (fun _ => []) /\ Gw c { c with f := f' } W W2 := by
 have h1 := h.later hb
 have n1 : ¬ cls n (1, 0, 0) := fun q => (zan q).2.1 rfl
 have n2 : ¬ cls n (2, 0, 0) := fun q => (zan q).2.2.1 rfl
 have n3 : ¬ cls n (3, 0, 0) := fun q => (zan q).2.2.2 rfl
 have f1 : f' c.tm = (1, 0, 0) := (hr.out _ (by simp) n1 _).2 h.ftm
 have nt : ∀ {k : Nat}, f' k ≠ (1, 0, 0) -> k ≠ c.tm := fun q e => q (by rw [e]; exact f1)
 have nt' : ∀ {k : Nat}, c.f k ≠ (1, 0, 0) -> k ≠ c.tm := fun q e => q (by rw [e]; exact h.ftm)
 have hmt := h1.map
 refine ⟨⟨hs.at h1.box (hmt.zcg h1.box), zai h1.wd hs fun k hk e => ?_, ?_, ?_, hs.at h1.seats (hmt.zcg h1.seats), hp, ?_, ?_, hm, ?_, ?_, h.okw, h.n2, h.lk, ?_, h.small⟩, ?_, ?_⟩
 ·obtain ⟨q, hq⟩ := zbd h1.wd hk
  exact hmt.zcg hq e
 ·exact zdq (h1.atl.kept hs fun k hk e => nt' (by rw [hk]; simp) e) fun k => hr.out _ (by simp) n3 k
 ·exact zdw (h1.rol.kept (zkf hs) fun k hk e => nt' (by rw [hk]; simp) e) fun k => hr.out _ (by simp) n2 k
 ·intro n' own' hne h'
  obtain ⟨m', q1, q2⟩ := h1.tabs n' own' h'
  exact ⟨m', q1, q2.move hs (fun k hk e => nt' (zan hk).2.1 e) fun l hl k => hr.out l (zan hl).1 (fun q => hne (zgy hl q)) k⟩
 ·exact ht.move hs (fun k hk e => nt (zan hk).2.1 e) fun _ _ _ => Iff.rfl
 ·exact fun k => (hr.out _ (by simp) n1 k).trans (h.fp k)
 ·intro k hk
  refine ⟨?_, Nat.lt_of_lt_of_le (hr.lt k hk) hs.size⟩
  by_cases e : cls n (f' k)
  ·refine (hr.new k e).elim (fun q => (h.lt k (zan q).1).1) fun q => ?_
   have := h.big
   omega
  exact (h.lt k (by rw [(hr.out _ hk e k).1 rfl]; exact hk)).1
 ·intro k n' hk
  by_cases e : n' = n
  ·exact .inl e
  exact .inr (h.only k n' (by rw [(hr.out _ (zan hk).1 (fun q => e (zgy hk q)) k).1 rfl]; exact hk))
 ·refine (St.of_below (S := fun k => c.f k ≠ (0, 0, 0)) hb).trans hs fun k _ e => ?_
  rw [e, h.ftm]
  simp
 intro k hk
 by_cases e : cls n (f' k)
 ·exact (hr.new k e).imp (fun q => absurd hnt (h.only k n q)) id
 exact .inl (by rw [(hr.out _ hk e k).1 rfl]; exact hk)
end
theorem ztl {s : SD} {i g : Nat} {l : List Prt} {own : List (Nat × Nat)} (hi : i < s.p.length) (hown : ∀ e ∈ own, e.1 ≠ i) (q : Nat) : rowsOf (entered s i l) (own ++ [(i, g)]) q = rowsOf s own q ++ [ptAt l q] := by
 unfold rowsOf
 rw [List.map_append, List.map_cons, List.map_nil, zcq l hi]
 congr 1
 exact List.map_congr_left fun e he => by rw [zfk l (hown e he)]
theorem zuo {s : SD} {i : Nat} {l : List Prt} {own : List (Nat × Nat)} (hown : ∀ e ∈ own, e.1 ≠ i) (q : Nat) : rowsOf (entered s i l) own q = rowsOf s own q := by
 unfold rowsOf
 exact List.map_congr_left fun e he => by rw [zfk l (hown e he)]
theorem Lk.apart {tab : Nat -> Option (List (Nat × Nat))} {seat : List (Nat × Nat)} {s : SD} {i n : Nat} {own : List (Nat × Nat)} (h : Lk (some i) tab seat s) (hn : tab n = some own) : ∀ e ∈ own, e.1 ≠ i := by
 intro e he q
 obtain ⟨j, hj⟩ := List.getElem?_of_mem he
 exact ((h.back n own hn).2 j e.1 e.2 hj).2.1 (by rw [q])
theorem zrg {l : List Nat} {m : Nat} (h : m ∈ l) : add l m = l := if_pos h
end Go.Proofs.YthadfdbkkmmgoaaGreatDoor.So
namespace Go.Proofs.YthadfdbkkmmgoaaGreatDoor.So
open Go.RowKit Go.Shelf Go.Maps
open Co (I64 zaj)
open At (St bAl zaa zab zac wi add)
open Ro (zae)
open Rs (Prt SD fitP mskP znh)
theorem zbg.mono {S S' : Nat -> Prop} {W : World} {v : Value} {l : List Prt} (h : zbg S W v l) (hS : ∀ k, S' k -> S k) : zbg S' W v l := by
 obtain ⟨a, c, h1, h2⟩ := h
 exact ⟨a, c, h1, h2.imp id fun ⟨b, o, q1, q2, q3⟩ => ⟨b, o, q1, fun q => q2 (hS b q), q3⟩⟩
theorem zni (s : SD) (i : Nat) (l : List Prt) : entered { s with sets := add s.sets (mskP l) } i l = entered s i l := by
 unfold entered
 simp only [zrg (At.zpp s.sets (mskP l))]
theorem Lk.few {ex : Option Nat} {tab : Nat -> Option (List (Nat × Nat))} {seat : List (Nat × Nat)} {s : SD} (h : Lk ex tab seat s) {n : Nat} {own : List (Nat × Nat)} (hn : tab n = some own) : own.length <= s.r.gens.length := by
 have hnd : (own.map Prod.fst).Nodup := by
  rw [List.Nodup, List.pairwise_map, List.pairwise_iff_getElem]
  intro a b ha hb hab e
  have := (h.one hn hn (i := own[a].1) (g := own[a].2) (g' := own[b].2) (List.getElem?_eq_getElem ha) (by rw [e]; exact List.getElem?_eq_getElem hb)).2
  omega
 have := At.zqz (N := s.r.gens.length) hnd fun y hy => by
  obtain ⟨p, hp, rfl⟩ := List.mem_map.1 hy
  obtain ⟨j, hj⟩ := List.getElem?_of_mem hp
  exact ziv ((h.back n own hn).2 j p.1 p.2 hj).1
 simpa using this
structure En (B : Nat) (W : World) (sb : Nat) (c : CV) (s : SD) (i g n M : Nat) (v : Value) (l : List Prt) (x : TV) (own : List (Nat × Nat)) (f5 : Nat -> Nat × Nat × Nat) (wx : World) : Prop where
 sx : Sx (some i) B wx sb { c with f := f5 } { s with sets := add s.sets M } n x M own (rowsOf s own)
 hown : c.tab n = some own \/ (c.tab n = none /\ own = [])
 gw : Gw c { c with f := f5 } W wx
 ent : wx.heap[W.heap.size]? = some (.cells #[.int .i64 (i : Int), .int .i64 (g : Int)] 144 (0, 0))
 row : zbg (fun k => c.f k ≠ (0, 0, 0) \/ W.heap.size <= k) wx v l
 out : f5 W.heap.size = (0, 0, 0)
theorem En.done {B : Nat} {W : World} {sb : Nat} {c : CV} {s : SD} {i g n M : Nat} {v : Value} {l l' : List Prt} {x : TV} {own : List (Nat × Nat)} {f5 f6 : Nat -> Nat × Nat × Nat} {wx w6 w7 : World} {ov' : Value} (h : En B W sb c s i g n M v l x own f5 wx) (ha : al s i g)
  (hM : M = mskP l) (hn : n = s.sets.idxOf M) (hp : l.Perm l') (hl : okE s.ws l')
  (h6 : Sx (some i) B w6 sb { c with f := f6 } { s with sets := add s.sets M } n ⟨x.tb, ov', x.cm, x.cb⟩ M (own ++ [(i, g)]) (pushed (rowsOf s own) l)) (hg : Gw c { c with f := f6 } W w6)
  (hw7 : w7 = (w6.setCell ⟨c.sv, i * 2, none⟩ (.int .i64 (n : Int))).setCell ⟨c.sv, i * 2 + 1, none⟩ (.int .i64 (own.length : Int))) :
  ∃ c', Sto none B w7 sb c' (entered s i l') /\ c'.t = c.t /\ Gw c c' W w7 := by
 have hm' : mskP l' = M := by rw [hM, z2d hp]
 have hi := ziv ha
 have h64 : s.p.length = 64 := h.sx.n2
 have hg64 : s.r.gens.length <= 64 := h.sx.rol.small
 have s67 : St (fun k => k = c.sv) w6 w7 := by
  rw [hw7]
  exact (St.setCell (S := fun k => k = c.sv) (p := ⟨c.sv, i * 2, none⟩) _ rfl).trans (St.setCell (S := fun k => k = c.sv) (p := ⟨c.sv, i * 2 + 1, none⟩) _ rfl) fun _ _ q => q
 have hse : w7.heap[c.sv]? = some (.cells (zae (c.seat.set i (n, own.length))).toArray 267 (0, 0)) := by
  have e1 := heap_setCell_same w6 c.sv (i * 2) _ 267 (.int .i64 (n : Int)) h6.seats
  have e2 := heap_setCell_same _ c.sv (i * 2 + 1) _ 267 (.int .i64 (own.length : Int)) e1
  rw [hw7, e2, zos]
  simp [Ro.gI]
 have ap : ∀ e ∈ own, e.1 ≠ i := by
  rcases h.hown with q | ⟨_, rfl⟩
  ·exact h6.lk.apart (n := n) q
  simp
 have hidx : (add s.sets M).idxOf (mskP l') = n := by rw [hm', At.zzh, hn]
 have LE := h6.lk.enter (i := i) (g := g) ha (by show s.r.gens.length <= s.p.length; omega) (l := l') hl (own := own) (by
  show c.tab ((add s.sets M).idxOf (mskP l')) = some own \/ _
  rw [hidx]; exact h.hown)
 rw [hidx] at LE
 have BK := h6.back (s' := entered { s with sets := add s.sets M } i l') (ex' := none) hse s67 (by simp) rfl rfl (by
  show add (add s.sets M) (mskP l') = add s.sets M
  rw [hm', zrg (At.zpp _ _)]) (by simp [entered, h64]) LE (by
  intro q hq
  rw [ztl (s := { s with sets := add s.sets M }) (by show i < s.p.length; omega) ap, hM] at *
  obtain ⟨p, hpl, hpc⟩ := (zcx (fun x hx => (hl.1.2 x (hp.mem_iff.1 hx)).1) q).1 hq
  rw [ztn _ (zfi (zdz hl.1) hp.symm) hpl hpc, zys (zfi (zdz hl.1) hp.symm) hp]
  rfl) (by
  intro n' own' hne h' q
  exact zuo (h6.lk.apart (n := n') h') q)
 rw [<- hm'] at BK
 rw [zni] at BK
 refine ⟨_, BK, rfl, hg.trans ⟨⟨s67.os, s67.tape, s67.output, s67.size, fun k hk hn => s67.block k hk fun q => hn ?_⟩, fun k hk => .inl hk⟩⟩
 show f6 k ≠ (0, 0, 0)
 rw [q]
 have := h6.fsv
 show f6 c.sv ≠ _
 rw [show f6 c.sv = (1, 0, 0) from this]
 simp
theorem zsb {l : List Prt} {k : Nat} {p : Prt} {c : Nat} (hp : l[k]? = some p) (hc : p.c = (c : Int)) : mskP (l.take (k + 1)) = wi (mskP (l.take k)) c := by
 have e : l.take (k + 1) = l.take k ++ [p] := by
  obtain ⟨hl, rfl⟩ := List.getElem?_eq_some_iff.1 hp
  exact List.take_succ_eq_append_getElem hl
 rw [e, znh, hc]
 rfl
theorem zyf {ex : Option Nat} {B : Nat} {W : World} {sb : Nat} {c : CV} {s : SD} (h : Sto ex B W sb c s) : ∀ n b, zau c.tab c.tv n = some b -> n < 70000 := by
 intro n b e
 unfold zau at e
 cases q : c.tab n with
 | none => rw [q] at e; cases e
 | some own =>
  obtain ⟨m, h1, -⟩ := h.tabs n own q
  have := (List.getElem?_eq_some_iff.1 h1).1
  have := h.atl.ok.small
  simp at this
  omega
theorem zbk {w : World} {sv a b : Nat} {x y : Value} {p : Addr} {u : Value} (h : w.cell? p = some u) (hn : p.block ≠ sv) : ((w.setCell ⟨sv, a, none⟩ x).setCell ⟨sv, b, none⟩ y).cell? p = some u :=
 zax (St.setCell (S := fun k => k = sv) (p := ⟨sv, b, none⟩) y rfl) (zax (St.setCell (S := fun k => k = sv) (p := ⟨sv, a, none⟩) x rfl) h hn) hn
set_option maxRecDepth 100000 in
theorem ziy {B : Nat} {W : World} {sb : Nat} {c : CV} {s : SD} {i g : Nat} (h : Sto (some i) B W sb c s) (ha : al s i g) {v : Value} {l l' : List Prt} (hv : zbg (fun k => c.f k ≠ (0, 0, 0)) W v l) (hp : l.Perm l') (hl : okE s.ws l') :
  Calls Tryz.prog 153 #[.pointer (some ⟨sb, 0, none⟩), .agg #[.int .i64 (i : Int), .int .i64 (g : Int)], v] W fun e W' => e = .returned (.tuple #[]) /\ ∃ c', Sto none B W' sb c' (entered s i l') /\ c'.t = c.t /\ Gw c c' W W' := by
 obtain ⟨va, vc, rfl, -⟩ := id hv
 have hl16 : l.length <= 16 := by rw [hp.length_eq]; exact Rs.zmo hl.1 h.okw.1
 have hli : (l.length : Int) <= 16 := by omega
 have HOK : Hid (∀ p ∈ l, 0 <= p.c /\ p.c < (s.ws.length : Int)) := fun p q => hl.1.2 p (hp.mem_iff.1 q)
 have hw16 := h.okw.1
 obtain ⟨w1, hw1⟩ : ∃ w1, w1 = W.alloc (.cells #[.int .i64 (i : Int), .int .i64 (g : Int)] 144) := ⟨_, rfl⟩
 have HW1 := hid hw1
 have B1 : Hid (Below W.heap.size W w1) := by rw [hw1]; exact bAl _ _
 have E1 : Hid (w1.heap[W.heap.size]? = some (.cells #[.int .i64 (i : Int), .int .i64 (g : Int)] 144 (0, 0))) := by rw [hw1]; exact heap_alloc_new W _
 have HV := hid hv.more
 have H := hid h
 have HA := hid ha
 have HP := hid hp
 have HL := hid hl
 clear hw1 h ha hp hl hv
 go_enter Tryz.func153, Tryz.ntmps153
 go_wp2_with fail
 rw [<- HW1.out]
 go_loopg [6, 8, 15] l.length (fun gh sv _ q wr => ∃ k m : Nat, k <= l.length /\ gh = l.length - k /\ q = .int .i64 (k : Int) /\ sv = .int .u32 (m : Int) /\ Hid (m = mskP (l.take k)) /\ Hid (m < 65536) /\ Hid (Below w1.heap.size w1 wr))
 case atStart => exact ⟨0, 0, Nat.zero_le _, rfl, rfl, rfl, rfl, (show (0 : Nat) < 65536 by decide), Below.refl _ _⟩
 case round =>
  obtain ⟨k, m, hk, rfl, rfl, rfl, HM, HM6, HB⟩ := hrel
  by_cases hlt : k < l.length
  ·have hki : (k : Int) < (l.length : Int) := by omega
   obtain ⟨p, hp⟩ := zal l k hlt
   have hrow := (HV.out.kept (T := fun _ => False) (St.of_below (B1.out.trans (HB.out.mono B1.out.size))) fun _ q => q.elim).at hp
   obtain ⟨b, o, rfl, d0, d1, d2, d3, d4, d5⟩ := hrow
   have hok := HOK.out p (List.mem_of_getElem? hp)
   obtain ⟨cc, hc⟩ : ∃ cc : Nat, p.c = (cc : Int) := ⟨p.c.toNat, by omega⟩
   have hc16 : cc < 16 := by omega
   have WI := hid (fun w => At.zzu m cc (by have := HM6.out; omega) (by omega) w)
   have HN : Hid (wi m cc = mskP (l.take (k + 1))) := by show _ = _; rw [zsb hp hc, <- HM.out]
   have HN6 : Hid (wi m cc < 65536) := At.z2v (n := 16) HM6.out hc16
   have HB' : Hid (Below w1.heap.size w1 (wr.alloc (.cells #[.int .i64 (cc : Int), .int .i64 p.v0, .int .i64 p.v1, .int .i64 p.v2, .int .i64 p.v3, .int .i64 p.t] 89))) := HB.out.alloc HB.out.size _
   clear hp hok HM HM6
   generalize wi m cc = m2 at *
   go_wp2_with (go_at_call 133; refine (WI.out _).mono ?_; rintro e w2 ⟨rfl, rfl⟩)
   go_roundg (l.length - (k + 1))
   case measure => omega
   case rel => exact ⟨k + 1, m2, by omega, rfl, by go_num, rfl, HN.out, HN6.out, HB'.out⟩
  have hki : ¬ ((k : Int) < (l.length : Int)) := by omega
  obtain rfl : k = l.length := by omega
  have hM : Hid (m = mskP l) := by show _ = _; rw [HM.out, List.take_length]
  have B2 := hid (B1.out.trans (HB.out.mono B1.out.size))
  have H2 := hid (H.out.later B2.out)
  have c1 := H2.out.c1
  have hm2 : m < 2 ^ s.ws.length := by rw [hM.out]; exact z9q HOK.out
  have AT := hid (At.ycf H2.out.atl m hm2)
  have E2 := hid (zab HB.out (Nat.le_refl _) E1.out)
  have R2 := hid (HV.out.kept (T := fun _ => False) (St.of_below B2.out) fun _ q => q.elim)
  clear HM HB
  go_wp2_with fail
  refine AT.out.mono ?_
  rintro e w3 ⟨rfl, S3, q1, q2, q3⟩
  obtain ⟨f3, h3, g3⟩ := H2.out.note (m := m) q1 q2 q3
  have H3 := hid h3
  have G3 := hid ((Gw.of_below (c := c) B2.out).trans g3)
  have hs3 : St (fun k => c.f k ≠ (0, 0, 0)) wr w3 := g3.st
  have E3 : Hid (w3.heap[W.heap.size]? = some (.cells #[.int .i64 (i : Int), .int .i64 (g : Int)] 144 (0, 0))) := hs3.at E2.out fun q => by have := (H.out.lt _ q).2; omega
  have R3 := hid (R2.out.kept hs3 fun k q => .inl q)
  have O3 : Hid (f3 W.heap.size = (0, 0, 0)) := by
   refine Classical.byContradiction fun q => ?_
   rcases g3.new W.heap.size q with q' | q'
   ·have := (H.out.lt _ q').2; omega
   have := (Array.getElem?_eq_some_iff.1 E2.out).1; omega
  have hset : (add s.sets m)[s.sets.idxOf m]? = some m := At.zzv _ _
  have hnb : s.sets.idxOf m <= 65536 := Nat.le_trans (At.ybv _ _) (by have := H.out.atl.ok.small; simpa using this)
  have HSET := hid hset
  obtain ⟨n, hn⟩ : ∃ n, n = s.sets.idxOf m := ⟨_, rfl⟩
  rw [<- hn] at HSET hnb ⊢
  have HN := hid hn
  have LK := h3.look_ok (n : Int) (zaj (by omega) (by omega))
  rw [zjq] at LK
  obtain ⟨y, hy⟩ : ∃ y, y = zau c.tab c.tv n := ⟨_, rfl⟩
  have hy' : zau c.tab c.tv n = y := hy.symm
  change (Instr.lookup 178 (.map (some c.tm)) (.int .i64 (n : Int)) true).run Tryz.prog w3 = .ok (.tuple #[ptrV (zau c.tab c.tv n), .bool (zau c.tab c.tv n).isSome]) w3 at LK
  rw [hy'] at LK
  have HY := hid hy
  have c2 : w3.cell? ⟨sb, 2, none⟩ = some (.map (some c.tm)) := h3.c2
  obtain ⟨pv, hpv⟩ : ∃ pv, pv = ptrV y := ⟨_, rfl⟩
  obtain ⟨pb, hpb⟩ : ∃ pb, pb = y.isSome := ⟨_, rfl⟩
  rw [<- hpv, <- hpb] at LK
  have HPV := hid hpv
  have HPB := hid hpb
  clear hy hy' hpv hpb h3 g3 q1 q2 q3 hs3 hset hn E2 R2 AT c1
  go_upto_if 43 with fail
  go_cut [11] (fun s11 wx => ∃ x own f5, s11 = .pointer (some ⟨x.tb, 0, none⟩) /\ Hid (En B W sb c s i g n m (.slice va l.length vc) l x own f5 wx))
  case first =>
   cases q : c.tab n with
   | none =>
    have hy : y = none := by rw [HY.out]; unfold zau; rw [q]; rfl
    obtain rfl : pb = false := by rw [HPB.out, hy]; rfl
    have hwd := H3.out.wd
    have c0 : w3.cell? ⟨sb, 0, none⟩ = some c.wv := H3.out.c0
    obtain ⟨wa, wcc, hwv⟩ := hwd.slice
    change c.wv = _ at hwv
    have NT := hid (znd (B := B) w3 f3 n m s.ws c.wv H3.out.big (fun k hk => (H3.out.lt k hk).2) (fun k hk => H3.out.only k n hk q) hm2 H3.out.okw hwd)
    have TBD := hid (zyf H3.out)
    rw [hwv] at c0 NT
    clear HY HPV HPB hy LK hwd
    go_wp2_with fail
    refine NT.out.mono ?_
    rintro e w4 ⟨x, rfl, f4, ht, hr, hb⟩
    have H4 := H3.out.later hb
    obtain ⟨w5, hmu, hp5, hs5⟩ := H4.map.store Tryz.underlying178 TBD.out n x.tb (by omega)
    have c2' : w4.cell? ⟨sb, 2, none⟩ = some (.map (some c.tm)) := H4.c2
    have FR := H3.out.fresh HSET.out ht hr hb hp5 hs5 q
    have hlt3 : W.heap.size < w3.heap.size := (Array.getElem?_eq_some_iff.1 E3.out).1
    have htm : c.tm < W.heap.size := (H.out.lt _ (by rw [H.out.ftm]; simp)).2
    have EN : Hid (En B W sb c s i g n m (.slice va l.length vc) l x [] f4 w5) := by
     refine ⟨FR.1, .inr ⟨q, rfl⟩, G3.out.trans FR.2, hs5.at (zab hb (Nat.le_refl _) E3.out) (by show ¬ W.heap.size = c.tm; omega), (R3.out.kept (T := fun _ => False) (St.of_below hb) fun _ q => q.elim).kept hs5 fun k e => .inl (by rw [e, H.out.ftm]; simp), ?_⟩
     refine Classical.byContradiction fun q' => ?_
     by_cases e : cls n (f4 W.heap.size)
     ·rcases hr.new _ e with e' | e'
      ·rw [O3.out] at e'; exact zdk n e'
      omega
     have := (hr.out _ q' e W.heap.size).1 rfl
     rw [O3.out] at this
     exact q' this.symm
    clear ht hr hb hp5 hs5 FR H4 NT c2 c0
    go_wp2_with fail
    go_meet
    exact ⟨x, [], f4, rfl, EN.out⟩
   | some own =>
    have hy : y = some (c.tv n).tb := by rw [HY.out]; unfold zau; rw [q]; rfl
    obtain rfl : pb = true := by rw [HPB.out, hy]; rfl
    obtain rfl : pv = .pointer (some ⟨(c.tv n).tb, 0, none⟩) := by rw [HPV.out, hy]; rfl
    clear HY HPV HPB hy LK
    go_wp2_with fail
    go_meet
    exact ⟨c.tv n, own, f3, rfl, ⟨H3.out.out (c := { c with f := f3 }) q HSET.out, .inl q, G3.out, E3.out, R3.out, O3.out⟩⟩
  case rest =>
   obtain ⟨x, own, f5, rfl, HE⟩ := hcut
   have hof : own.length <= 64 := by
    rcases HE.out.hown with q | ⟨_, rfl⟩
    ·exact Nat.le_trans (HE.out.sx.lk.few (n := n) q) HE.out.sx.rol.small
    simp
   have hi := ziv HA.out
   have hsl : i < c.seat.length := by have := HE.out.sx.lk.len; change c.seat.length = s.r.gens.length at this; omega
   have hsi : (i : Int) < (c.seat.length : Int) := by omega
   obtain ⟨p0, hp0'⟩ := zal c.seat i hsl
   have hp0 := hid hp0'
   have nsb : sb ≠ c.sv := fun e => by
    have := H.out.box
    rw [e, H.out.seats] at this
    simp at this
   have nsW : W.heap.size ≠ c.sv := by have := (H.out.lt _ (by rw [H.out.fsv]; simp)).2; omega
   clear hp0'
   have hwlt : W.heap.size < wc.heap.size := (Array.getElem?_eq_some_iff.1 HE.out.ent).1
   have RW : Hid (zbg (fun k => cls n (f5 k)) wc (.slice va l.length vc) l) := HE.out.row.mono fun k q => HE.out.gw.new k (zan q).1
   have OKP : Hid (∀ p ∈ l, 0 <= p.c /\ p.c < 16 /\ m.testBit p.c.toNat = true /\ fitP s.ws p = true /\ I64 p.t) := fun p hp => by
    have h1 := HOK.out p hp
    have h2 := HL.out.2 p (HP.out.mem_iff.1 hp)
    refine ⟨h1.1, by omega, ?_, h2.1, h2.2⟩
    rw [hM.out, zcx (fun x hx => (HOK.out x hx).1)]
    exact ⟨p, hp, by omega⟩
   have RL : Hid (∀ q, (rowsOf s own q).length <= 100) := fun q => by unfold rowsOf; simp; omega
   have PC : Hid (∀ W', Below wc.heap.size wc W' -> Calls Tryz.prog 173 #[.pointer (some ⟨x.tb, 0, none⟩), .agg #[.int .i64 (i : Int), .int .i64 (g : Int)], .slice va l.length vc] W' fun e W2 => e = .returned (.int .i64 (own.length : Int)) /\ (∃ ov' f6, Sx (some i) B W2 sb { c with f := f6 } { s with sets := add s.sets m } n ⟨x.tb, ov', x.cm, x.cb⟩ m (own ++ [(i, g)]) (pushed (rowsOf s own) l) /\ Gw c { c with f := f6 } W W2) /\ W2.heap[W.heap.size]? = some (.cells #[.int .i64 (i : Int), .int .i64 (g : Int)] 144 (0, 0))) := fun W' hb => by
    have hx := HE.out.sx.later hb
    refine (z1x hx.tb (fun k hk => (hx.lt k hk).2) i g (RW.out.kept (T := fun _ => False) (St.of_below hb) fun _ q => q.elim) hl16 OKP.out RL.out (by omega) (by have := hx.lt sb (by rw [hx.fsb]; simp); omega)).mono ?_
    rintro e W2 ⟨rfl, ov', f6, q1, q2, q3⟩
    have R := hx.yal q1 q2 q3
    refine ⟨rfl, ⟨ov', f6, R.1, (HE.out.gw.trans (Gw.of_below hb)).trans R.2⟩, q3.at (zab hb (Nat.le_refl _) HE.out.ent) ?_⟩
    show ¬ cls n (f5 W.heap.size)
    rw [HE.out.out]
    exact zdk n
   have KX : Hid (∀ W' f6 ov' own' rows', Sx (some i) B W' sb { c with f := f6 } { s with sets := add s.sets m } n ⟨x.tb, ov', x.cm, x.cb⟩ m own' rows' -> W'.heap[W.heap.size]? = some (.cells #[.int .i64 (i : Int), .int .i64 (g : Int)] 144 (0, 0)) -> W'.cell? ⟨sb, 4, none⟩ = some (.slice (some ⟨c.sv, 0, none⟩) c.seat.length c.seat.length) /\ W'.cell? ⟨W.heap.size, 0, none⟩ = some (.int .i64 (i : Int)) /\ W'.cell? ⟨W.heap.size, 1, none⟩ = some (.int .i64 (g : Int))) :=
    fun W' f6 ov' own' rows' h1 h2 => ⟨zaa h1.box rfl, zaa h2 rfl, zaa h2 rfl⟩
   have KK : Hid (∀ W', Below wc.heap.size wc W' -> W'.cell? ⟨sb, 4, none⟩ = some (.slice (some ⟨c.sv, 0, none⟩) c.seat.length c.seat.length) /\ W'.cell? ⟨W.heap.size, 0, none⟩ = some (.int .i64 (i : Int)) /\ W'.cell? ⟨W.heap.size, 1, none⟩ = some (.int .i64 (g : Int))) := fun W' hb => KX.out W' f5 x.ov own (rowsOf s own) (HE.out.sx.later hb) (zab hb (Nat.le_refl _) HE.out.ent)
   clear RW OKP RL LK HY HPV HPB H3 G3 E3 R3 O3 HSET
   go_wp2_with fail
   go_region_held3 (fun W' => W'.cell? ⟨sb, 4, none⟩ = some (.slice (some ⟨c.sv, 0, none⟩) c.seat.length c.seat.length) /\ W'.cell? ⟨W.heap.size, 0, none⟩ = some (.int .i64 (i : Int)) /\ W'.cell? ⟨W.heap.size, 1, none⟩ = some (.int .i64 (g : Int)))
    (first | exact KK.out _ (Below.refl _ _).drew | exact KK.out _ (Below.refl _ _) | exact K6.out | exact ⟨zbk K6.out.1 nsb, zbk K6.out.2.1 nsW, zbk K6.out.2.2 nsW⟩)
    ((go_at_call 173; refine (PC.out _ (by first | exact (Below.refl _ _).drew | exact Below.refl _ _)).mono ?_; rintro e w6 ⟨rfl, ⟨ov', f6, hx6, hg6⟩, he6⟩; have K6 := hid (KX.out _ _ _ _ _ hx6 he6); have X6 := hid hx6; have G6 := hid hg6; have z0 : w6.cell? ⟨c.sv, i * 2, none⟩ = some (.int .i64 (p0.1 : Int)) := zaa hx6.seats (by simpa using (zkn hp0.out).1); have z1 : w6.cell? ⟨c.sv, i * 2 + 1, none⟩ = some (.int .i64 (p0.2 : Int)) := zaa hx6.seats (by simpa using (zkn hp0.out).2); have y0 : w6.frozen? ⟨c.sv, i * 2, none⟩ = false := zac hx6.seats _; have y1 : w6.frozen? ⟨c.sv, i * 2 + 1, none⟩ = false := zac hx6.seats _; clear hx6 hg6 he6))
   obtain ⟨w7, hw7⟩ : ∃ w7, w7 = (w6.setCell ⟨c.sv, i * 2, none⟩ (.int .i64 (n : Int))).setCell ⟨c.sv, i * 2 + 1, none⟩ (.int .i64 (own.length : Int)) := ⟨_, rfl⟩
   have FN := hid (HE.out.done HA.out hM.out HN.out HP.out HL.out X6.out G6.out hw7)
   rw [<- hw7]
   clear hw7 z0 z1 y0 y1 K6 X6 G6 KK KX PC
   go_end0
   exact ⟨rfl, FN.out⟩
end Go.Proofs.YthadfdbkkmmgoaaGreatDoor.So
namespace Go.Proofs.YthadfdbkkmmgoaaGreatDoor.So
open Go.RowKit Go.Shelf Go.Maps
open At (St bAl zaa lst zbc Ints)
open Rs (Prt Prts zbm)
structure Ea (W : World) (cs : List Nat) (pr : Nat -> Prt) (Inv : Nat -> World -> Prop) (la : Option Addr) (lc : Nat) (k : Nat) (lv : Value) (wr : World) : Prop where
 inv : Inv k wr
 out : Prts W.heap.size wr lv ((cs.take k).map pr)
 li : Ints W.heap.size wr (.slice la cs.length lc) cs
 st : St (fun k => k < W.heap.size) W wr
theorem zow {B B' : Nat} {W : World} {v u : Value} {l : List Nat} {q : List Prt} (h : Ints B W v l) (h' : Prts B' W u q) {k : Nat} (hv : v.ownBlock = some k) : u.ownBlock ≠ some k := fun hu => by
 obtain ⟨c, e⟩ := zbd h hv
 obtain ⟨c', e'⟩ := zbd h' hu
 rw [e] at e'
 simp at e'
set_option maxRecDepth 100000 in
theorem zsn (fk : Nat) (lb : Array Value) (eg : ∀ args w, (callFunc fk args).run Tryz.prog w = .ok (.enter fk args) w) {W : World} (tb cm m : Nat) (cb : Nat -> Nat) (pr : Nat -> Prt) (Inv : Nat -> World -> Prop) (hm : m < 65536) (h0 : Inv 0 W) (c0 : W.cell? ⟨tb, 0, none⟩ = some (.int .u32 (m : Int)))
  (hlater : ∀ k w w', Inv k w -> Below w.heap.size w w' -> Inv k w')
  (hread : ∀ k w, Inv k w -> w.cell? ⟨tb, 2, none⟩ = some (.map (some cm)) /\ ∀ c, m.testBit c = true -> (Instr.lookup 269 (.map (some cm)) (.int .i64 ((c : Nat) : Int)) false).run Tryz.prog w = .ok (.pointer (some ⟨cb c, 0, none⟩)) w)
  (hout : ∀ k w w' lv q, Inv k w -> W.heap.size <= w.heap.size -> Prts W.heap.size w lv q -> St (fun x => lv.ownBlock = some x) w w' -> Inv k w')
  (hstep : ∀ k c w, (lst 32 m)[k]? = some c -> Inv k w -> W.heap.size <= w.heap.size -> Calls Tryz.prog fk (#[.pointer (some ⟨cb c, 0, none⟩)] ++ lb) w fun e w' => e = .returned (.tuple #[(pr c).val, .nilIface]) /\ Inv (k + 1) w' /\ St (fun k => k < W.heap.size) w w') :
  Calls Tryz.prog 122 #[.pointer (some ⟨tb, 0, none⟩), .func (.func fk) #[] lb] W fun e W' => ∃ v, e = .returned v /\ Prts W.heap.size W' v ((lst 32 m).map pr) /\ Inv (lst 32 m).length W' /\ St (fun k => k < W.heap.size) W W' := by
 have LI := hid (At.zdp m (by omega) W)
 have HS := hid hstep
 have HR := hid hread
 have HLa := hid hlater
 have HO := hid hout
 have H0 := hid h0
 have hln := zol m
 have HB : Hid (∀ c, c ∈ lst 32 m -> m.testBit c = true /\ c < 32) := fun c hc => ⟨((zbc m c 32).1 hc).2, ((zbc m c 32).1 hc).1⟩
 clear hstep hread hlater h0 hout
 go_enter Tryz.func122, Tryz.ntmps122
 go_wp2_with fail
 refine LI.out.mono ?_
 rintro e w1 ⟨lv0, rfl, hlv, hb1⟩
 obtain ⟨la, lc, rfl⟩ := hlv.slice
 generalize hcs : lst 32 m = cs at *
 have HCS := hid hcs
 clear hcs
 have E0 : Hid (Ea W cs pr Inv la lc 0 (.slice none 0 0) w1) := ⟨HLa.out 0 W w1 H0.out hb1, World.ownsRow_nil _ _ _ _, hlv, St.of_below hb1⟩
 clear hlv hb1 LI
 have hleni : (cs.length : Int) <= 32 := by omega
 go_wp2_with fail
 go_loopg [5, 7, 8, 9, 16] cs.length (fun gh lv _ _ _ q wr => ∃ k : Nat, k <= cs.length /\ gh = cs.length - k /\ q = .int .i64 (k : Int) /\ Hid (Ea W cs pr Inv la lc k lv wr))
 case atStart => exact ⟨0, Nat.zero_le _, rfl, rfl, E0.out⟩
 case round =>
  obtain ⟨k, hk, rfl, rfl, HE⟩ := hrel
  by_cases hlt : k < cs.length
  ·have hki : (k : Int) < (cs.length : Int) := by omega
   obtain ⟨c, hc⟩ := zal cs k hlt
   obtain ⟨g, rfl, -, -⟩ := HE.out.li.some (by omega)
   have x1 := HE.out.li.cell hc
   have hcb := HB.out c (List.mem_of_getElem? hc)
   have x2 := (HR.out k wr HE.out.inv).1
   have x3 := (HR.out k wr HE.out.inv).2 c hcb.1
   have hws : W.heap.size <= wr.heap.size := HE.out.st.size
   have ST := hid (HS.out k c wr hc HE.out.inv hws)
   have HT : Hid (cs.take (k + 1) = cs.take k ++ [c]) := by
    obtain ⟨hl, rfl⟩ := List.getElem?_eq_some_iff.1 hc
    exact List.take_succ_eq_append_getElem hl
   obtain ⟨p, hp⟩ : ∃ p, p = pr c := ⟨_, rfl⟩
   rw [<- hp] at ST
   have HP := hid hp
   unfold Prt.val at ST
   clear hc hp hcb
   go_wp2_with fail
   refine ST.out.mono ?_
   rintro e w2 ⟨rfl, hi2, hs2⟩
   have I2 := hid hi2
   have S2 := hid hs2
   clear hi2 hs2 ST x1 x2 x3
   obtain ⟨q, hq⟩ : ∃ q, q = (cs.take k).map pr := ⟨_, rfl⟩
   have HQ := hid hq
   have hul : q.length <= 1000 := by rw [hq]; simp; omega
   have HEo : Prts W.heap.size wr u5 q := by rw [hq]; exact HE.out.out
   obtain ⟨oa, oc, rfl⟩ := HEo.slice
   have O2 : Hid (Prts W.heap.size w2 (.slice oa q.length oc) q) := HEo.kept S2.out fun y hy e => by have := (HEo.lt y hy).1; omega
   clear hq HEo
   have b3 := bAl w2 (.cells #[.int .i64 p.c, .int .i64 p.v0, .int .i64 p.v1, .int .i64 p.v2, .int .i64 p.v3, .int .i64 p.t] 89)
   obtain ⟨w3, hw3⟩ : ∃ w3, w3 = w2.alloc (.cells #[.int .i64 p.c, .int .i64 p.v0, .int .i64 p.v1, .int .i64 p.v2, .int .i64 p.v3, .int .i64 p.t] 89) := ⟨_, rfl⟩
   have y := heap_alloc_new w2 (.cells #[.int .i64 p.c, .int .i64 p.v0, .int .i64 p.v1, .int .i64 p.v2, .int .i64 p.v3, .int .i64 p.t] 89)
   rw [<- hw3] at b3 y
   have B3 := hid b3
   have O3 := hid (O2.out.later b3)
   have y0 := zaa y (j := 0) rfl
   have y1 := zaa y (j := 1) rfl
   have y2 := zaa y (j := 2) rfl
   have y3 := zaa y (j := 3) rfl
   have y4 := zaa y (j := 4) rfl
   have y5 := zaa y (j := 5) rfl
   have hsz3 : W.heap.size <= w3.heap.size := Nat.le_trans hws (Nat.le_trans S2.out.size b3.size)
   have HW3 := hid hw3
   clear b3 y hw3 O2
   go_upto_region 6 with fail
   rw [<- HW3.out]
   go_wp2_with (at_builtin; refine zbm (p := p) rfl _ _ rfl O3.out hul hsz3 rfl rfl ?_; intro v4 w4 H4 S4)
   go_roundg (cs.length - (k + 1))
   case measure => omega
   case rel =>
    refine ⟨k + 1, by omega, rfl, by go_num, ⟨?_, ?_, ?_, ?_⟩⟩
    ·exact HO.out (k + 1) w3 w4 _ _ (HLa.out _ _ _ I2.out B3.out) hsz3 O3.out S4.out
    ·rw [HT.out, List.map_append, List.map_cons, List.map_nil, <- HP.out, <- HQ.out]
     exact H4.out
    ·have l2 : Ints W.heap.size w3 (.slice (some ⟨g, 0, none⟩) cs.length lc) cs := Ints.later (zai HE.out.li S2.out fun y hy q => by have := (HE.out.li.lt y hy).1; omega) B3.out
     exact zai l2 S4.out fun y hy q => zow l2 O3.out hy q
    refine ((HE.out.st.trans S2.out fun _ _ q => q).trans (St.of_below (S := fun _ => False) B3.out) fun _ _ q => q.elim).trans S4.out fun y hy q => ?_
    exact hy
  have hki : ¬ ((k : Int) < (cs.length : Int)) := by omega
  obtain rfl : k = cs.length := by omega
  have hd := HE.out
  go_wp2_with fail
  go_ret
  have ho := hd.out
  rw [List.take_length] at ho
  refine ⟨_, rfl, ?_⟩
  rw [HCS.out]
  exact ⟨ho, hd.inv, hd.st⟩
end Go.Proofs.YthadfdbkkmmgoaaGreatDoor.So
namespace Go.Proofs.YthadfdbkkmmgoaaGreatDoor.So
open Go.RowKit Go.Shelf Go.Maps
open Co (Pt Col CS lies zca zcs put6)
open At (St bAl zab)
section
variable {B : Nat} {W : World} {rb : Nat} {s : CS} {S : Nat -> Prop}
set_option maxRecDepth 100000 in
theorem zye (h : Col B W rb s S) (n : Nat) (p : Pt) (hp : s.rows[n]? = some p) (pl : Pt) (hpl : s.rows[s.rows.length - 1]? = some pl) (xb : Nat) (hx : W.cell? ⟨xb, 0, none⟩ = some (.int .i64 (n : Int))) :
  Calls Tryz.prog 190 #[.pointer (some ⟨rb, 0, none⟩), .pointer (some ⟨xb, 0, none⟩)] W fun e W' => e = .returned (.tuple #[p.val s.comp, .nilIface]) /\ Col B W' rb (s.taken n pl) S /\ Co.St S W W' := by
 obtain ⟨W1, hW1⟩ : ∃ W1, W1 = W.alloc (.cells #[.int .i64 0, .int .i64 0, .int .i64 0, .int .i64 0, .int .i64 0, .int .i64 0] 89) := ⟨_, rfl⟩
 have b1 : Below W.heap.size W W1 := by rw [hW1]; exact bAl _ _
 have r1 : W1.heap[W.heap.size]? = some (.cells (Pt.zero.arr 0) 89 (0, 0)) := by rw [hW1]; exact heap_alloc_new W _
 have x1 : W1.cell? ⟨xb, 0, none⟩ = some (.int .i64 (n : Int)) := At.seen b1 (Nat.le_refl _) hx
 have TK := hid (Co.z1j (h.later b1) n p hp pl hpl)
 have HLT := hid (fun k hk => (h.lt k hk).2)
 have HW1 := hid hW1
 have B1 := hid b1
 have R1 := hid r1
 unfold Pt.val at TK ⊢
 generalize s.comp = cm at *
 clear h hp hpl hx b1 hW1 r1
 go_enter Tryz.func190, Tryz.ntmps190
 go_upto_region 1 with fail
 rw [<- HW1.out]
 go_wp2_with fail
 refine TK.out.mono ?_
 rintro e w2 ⟨rfl, hc, hs⟩
 have C2 := hid hc
 have S2 := hid hs
 have r2 : w2.heap[W.heap.size]? = some (.cells (Pt.zero.arr 0) 89 (0, 0)) := hs.at R1.out fun q => by have := HLT.out _ q; omega
 have R2 := hid r2
 obtain ⟨x0, x1, x2, x3, x4, x5, f0, f1, f2, f3, f4, f5⟩ := lies r2
 clear hc hs r2 TK
 go_wp2_with fail
 have PB := zca R2.out rfl cm p
 have PS := zcs w2 W.heap.size cm p
 unfold put6 at PB PS
 obtain ⟨d0, d1, d2, d3, d4, d5, -, -, -, -, -, -⟩ := lies PB
 generalize (((((w2.setCell ⟨W.heap.size, 0, none⟩ (.int .i64 cm)).setCell ⟨W.heap.size, 1, none⟩ (.int .i64 p.a)).setCell ⟨W.heap.size, 2, none⟩ (.int .i64 p.b)).setCell ⟨W.heap.size, 3, none⟩ (.int .i64 p.c)).setCell ⟨W.heap.size, 4, none⟩ (.int .i64 p.d)).setCell ⟨W.heap.size, 5, none⟩ (.int .i64 p.t) = w3 at *
 refine bodyPost_ret (v := .tuple #[.agg #[.int .i64 cm, .int .i64 p.a, .int .i64 p.b, .int .i64 p.c, .int .i64 p.d, .int .i64 p.t], .nilIface]) (by simp [results, Tryz.results190, go_sem, d0, d1, d2, d3, d4, d5]) rfl ⟨rfl, C2.out.kept PS fun k hk e => ?_, ?_⟩
 ·have := HLT.out k hk; omega
 exact ((Co.St.of_below (S := S) B1.out).trans S2.out fun _ _ q => q).trans PS fun k hk e => by omega
set_option maxRecDepth 100000 in
theorem z2l (h : Col B W rb s S) (n : Nat) (p : Pt) (hp : s.rows[n]? = some p) (xb : Nat) (hx : W.cell? ⟨xb, 0, none⟩ = some (.int .i64 (n : Int))) :
  Calls Tryz.prog 123 #[.pointer (some ⟨rb, 0, none⟩), .pointer (some ⟨xb, 0, none⟩)] W fun e W' => e = .returned (.tuple #[p.val s.comp, .nilIface]) /\ Below W.heap.size W W' := by
 obtain ⟨W1, hW1⟩ : ∃ W1, W1 = W.alloc (.cells #[.int .i64 0, .int .i64 0, .int .i64 0, .int .i64 0, .int .i64 0, .int .i64 0] 89) := ⟨_, rfl⟩
 have b1 : Below W.heap.size W W1 := by rw [hW1]; exact bAl _ _
 have r1 : W1.heap[W.heap.size]? = some (.cells (Pt.zero.arr 0) 89 (0, 0)) := by rw [hW1]; exact heap_alloc_new W _
 have x1 : W1.cell? ⟨xb, 0, none⟩ = some (.int .i64 (n : Int)) := At.seen b1 (Nat.le_refl _) hx
 have TK := hid (Co.zxj (h.later b1) n p hp)
 have HW1 := hid hW1
 have B1 := hid b1
 have R1 := hid r1
 unfold Pt.val at TK ⊢
 generalize s.comp = cm at *
 clear h hp hx b1 hW1 r1
 go_enter Tryz.func123, Tryz.ntmps123
 go_upto_region 1 with fail
 rw [<- HW1.out]
 go_wp2_with fail
 refine TK.out.mono ?_
 rintro e w2 ⟨rfl, hb⟩
 have B2 := hid (B1.out.trans (hb.mono B1.out.size))
 have r2 : w2.heap[W.heap.size]? = some (.cells (Pt.zero.arr 0) 89 (0, 0)) := zab hb (Nat.le_refl _) R1.out
 have R2 := hid r2
 obtain ⟨x0, x1, x2, x3, x4, x5, f0, f1, f2, f3, f4, f5⟩ := lies r2
 clear hb r2 TK
 go_wp2_with fail
 have PB := zca R2.out rfl cm p
 have PS := zcs w2 W.heap.size cm p
 unfold put6 at PB PS
 obtain ⟨d0, d1, d2, d3, d4, d5, -, -, -, -, -, -⟩ := lies PB
 generalize (((((w2.setCell ⟨W.heap.size, 0, none⟩ (.int .i64 cm)).setCell ⟨W.heap.size, 1, none⟩ (.int .i64 p.a)).setCell ⟨W.heap.size, 2, none⟩ (.int .i64 p.b)).setCell ⟨W.heap.size, 3, none⟩ (.int .i64 p.c)).setCell ⟨W.heap.size, 4, none⟩ (.int .i64 p.d)).setCell ⟨W.heap.size, 5, none⟩ (.int .i64 p.t) = w3 at *
 exact bodyPost_ret (v := .tuple #[.agg #[.int .i64 cm, .int .i64 p.a, .int .i64 p.b, .int .i64 p.c, .int .i64 p.d, .int .i64 p.t], .nilIface]) (by simp [results, Tryz.results123, go_sem, d0, d1, d2, d3, d4, d5]) rfl ⟨rfl, B2.out.trans (PS.below (B := W.heap.size) (fun k hk => by omega) B2.out.size)⟩
end
end Go.Proofs.YthadfdbkkmmgoaaGreatDoor.So
namespace Go.Proofs.YthadfdbkkmmgoaaGreatDoor.So
open Go.RowKit Go.Shelf Go.Maps
open Co (Pt Col zaj)
open At (St bAl zaa zab zac lst zbc an)
open Ro (Ents zae zdm)
open Rs (Prts SD mskP zkf)
def tk (r : List Pt) (j : Nat) : List Pt := (r.set j (r.getD (r.length - 1) Pt.zero)).dropLast
def zlw (rows : Nat -> List Pt) (j : Nat) (l : List Nat) (c : Nat) : List Pt := if c ∈ l then tk (rows c) j else rows c
section
variable {B : Nat} {W W' : World} {f : Nat -> Nat × Nat × Nat} {n : Nat} {x : TV} {m : Nat} {ws : List Nat} {own : List (Nat × Nat)} {rows : Nat -> List Pt}
theorem Tb.z7k (h : Tb B W f n x m ws own rows) {c w : Nat} (hw : ws[c]? = some w) {r' : List Pt} (hcol : Col B W' (x.cb c) ⟨(c : Int), w, r'⟩ (fun k => f k = (5, n, c))) (hs : St (fun k => f k = (5, n, c)) W W') : Tb B W' f n x m ws own (fun c' => if c' = c then r' else rows c') := by
 have e4 : ∀ k, f k = (4, n, 0) -> ¬ f k = (5, n, c) := fun k hk e => by rw [hk] at e; simp at e
 refine ⟨hs.at h.box (e4 _ h.ftb), zai h.own hs fun k hk => e4 k (h.fov hk), h.map.kept hs (e4 _ h.fcm), fun c' hc' => ?_, h.fp, h.low⟩
 by_cases e : c' = c
 ·subst e
  refine ⟨w, hw, ?_⟩
  rw [if_pos rfl]
  exact hcol
 obtain ⟨w', q1, q2⟩ := h.col c' hc'
 refine ⟨w', q1, ?_⟩
 rw [if_neg e]
 exact q2.kept (znm hs) fun k hk q => by rw [hk] at q; simp at q; exact e q
theorem ztw (rows : Nat -> List Pt) (j : Nat) {cs : List Nat} {k c : Nat} (hc : cs[k]? = some c) : zlw rows j (cs.take (k + 1)) = fun c' => if c' = c then tk (rows c) j else zlw rows j (cs.take k) c' := by
 have e : cs.take (k + 1) = cs.take k ++ [c] := by
  obtain ⟨hl, rfl⟩ := List.getElem?_eq_some_iff.1 hc
  exact List.take_succ_eq_append_getElem hl
 funext c'
 unfold zlw
 rw [e]
 by_cases q : c' = c
 ·subst q; simp
 simp [q]
theorem Tb.ycd (h : Tb B W f n x m ws own rows) {ov' : Value} {own' : List (Nat × Nat)} (hov : ov'.ownBlock = x.ov.ownBlock) (hs : St (fun k => f k = (4, n, 0)) W W') (hbox : W'.heap[x.tb]? = some (.cells #[.int .u32 (m : Int), ov', .map (some x.cm)] 271 (0, 0))) (hmap : PMap W' x.cm (zcv m x.cb)) (ho : Ents B W' ov' own') :
  Tb B W' f n ⟨x.tb, ov', x.cm, x.cb⟩ m ws own' rows := by
 refine ⟨hbox, ho, hmap, fun c hc => ?_, fun k => ?_, h.low⟩
 ·obtain ⟨w', q1, q2⟩ := h.col c hc
  exact ⟨w', q1, q2.kept (znm hs) fun k hk q => by rw [hk] at q; simp at q⟩
 rw [h.fp k, <- hov]
end
theorem z2u (l : List (Nat × Nat)) (k : Nat) : (zae l).take (k * 2) = zae (l.take k) := by
 induction l generalizing k with
 | nil => simp [zae]
 | cons a l ih =>
  have e : ∀ (q : Nat × Nat) l, zae (q :: l) = Ro.gI q.1 :: Ro.gI q.2 :: zae l := fun q l => by simp [zae]
  cases k with
  | zero => simp [zae]
  | succ k =>
   rw [e, List.take_succ_cons, e, show (k + 1) * 2 = k * 2 + 1 + 1 by omega, List.take_succ_cons, List.take_succ_cons, ih]
theorem zql {cur : List Value} {own : List (Nat × Nat)} {j : Nat} {y : Nat × Nat} (hc : cur.take (own.length * 2) = zae own) :
  ((cur.set (j * 2) (Ro.gI y.1)).set (j * 2 + 1) (Ro.gI y.2)).take ((own.length - 1) * 2) = zae (taken own j y) := by
 unfold taken
 rw [List.dropLast_eq_take, <- z2u, List.length_set, zos, <- hc, List.take_set, List.take_set, List.take_set, List.take_set, List.take_take, Nat.min_eq_left (by omega)]
structure Tk (B : Nat) (W W1 : World) (f : Nat -> Nat × Nat × Nat) (n : Nat) (x : TV) (m : Nat) (ws : List Nat) (own : List (Nat × Nat)) (rows : Nat -> List Pt) (j k : Nat) (w : World) : Prop where
 tb : Tb B w f n x m ws own (zlw rows j ((lst 32 m).take k))
 st : St (fun k => cls n (f k)) W1 w
 cell : w.heap[W.heap.size]? = some (.cells #[.int .i64 (j : Int)] 3 (0, 0))
theorem zyx : ∀ args w, (callFunc 190 args).run Tryz.prog w = .ok (.enter 190 args) w := enters_of Tryz.func190 (by kernel_rfl) rfl
theorem taking {B : Nat} {W W1 : World} {f : Nat -> Nat × Nat × Nat} {n : Nat} {x : TV} {m : Nat} {ws : List Nat} {own : List (Nat × Nat)} {rows : Nat -> List Pt} (h : Tb B W f n x m ws own rows) (hlt : ∀ k, f k ≠ (0, 0, 0) -> k < W.heap.size) (hm : m < 65536) (j : Nat) (hj : j < own.length) (hrows : ∀ c, m.testBit c = true -> (rows c).length = own.length)
  (hW1 : W1 = W.alloc (.cells #[.int .i64 (j : Int)] 3)) :
  Calls Tryz.prog 122 #[.pointer (some ⟨x.tb, 0, none⟩), .func (.func 190) #[] #[.pointer (some ⟨W.heap.size, 0, none⟩)]] W1 fun e W' => ∃ v, e = .returned v /\ Prts W1.heap.size W' v ((lst 32 m).map fun c => mk c ((rows c).getD j Pt.zero)) /\ Tk B W W1 f n x m ws own rows j (lst 32 m).length W' /\ St (fun k => k < W1.heap.size) W1 W' := by
 have b1 : Below W.heap.size W W1 := by rw [hW1]; exact bAl _ _
 have hz : W1.heap.size = W.heap.size + 1 := by rw [hW1]; simp
 have r1 : W1.heap[W.heap.size]? = some (.cells #[.int .i64 (j : Int)] 3 (0, 0)) := by rw [hW1]; exact heap_alloc_new W _
 have h1 := h.later b1
 have hc16 : ∀ c, m.testBit c = true -> c < 16 := fun c hc => Nat.lt_of_not_le fun q => by
  rw [At.zfq (n := 16) hm q] at hc
  cases hc
 refine zsn 190 #[.pointer (some ⟨W.heap.size, 0, none⟩)] zyx x.tb x.cm m x.cb (fun c => mk c ((rows c).getD j Pt.zero)) (Tk B W W1 f n x m ws own rows j) hm ⟨?_, St.refl _ _, r1⟩ h1.c0 ?_ ?_ ?_ ?_
 ·have e : zlw rows j ((lst 32 m).take 0) = rows := by funext c; simp [zlw]
  rw [e]; exact h1
 ·intro k w w' hk hb
  exact ⟨hk.tb.later hb, hk.st.trans (St.of_below (S := fun _ => False) hb) fun _ _ q => q.elim, zab hb (Nat.le_refl _) hk.cell⟩
 ·intro k w hk
  refine ⟨hk.tb.c2, fun c hc => ?_⟩
  have := hk.tb.look (c : Int) (zaj (by omega) (by have := hc16 c hc; omega))
  rw [zjq] at this
  unfold zcv at this
  rw [if_pos hc] at this
  exact this
 ·intro k w w' lv q hk hw hp hs
  have hlv : ∀ y, lv.ownBlock = some y -> W1.heap.size <= y := fun y hy => (hp.lt y hy).1
  refine ⟨hk.tb.move hs (fun y hy e => ?_) fun _ _ _ => Iff.rfl, hk.st.trans hs fun y hy e => ?_, hs.at hk.cell fun e => ?_⟩
  ·have := hlv y e
   have := hlt y (zan hy).1
   omega
  ·have := hlv y e; omega
  have := hlv _ e; omega
 intro k c w hc hk hw
 have hcb := ((zbc m c 32).1 (List.mem_of_getElem? hc)).2
 obtain ⟨wd, q1, q2⟩ := hk.tb.col c hcb
 have hnd : c ∉ (lst 32 m).take k := fun q => by
  have h2 : ((lst 32 m).take (k + 1)).Nodup := (znk m 32).sublist (List.take_sublist _ _)
  have e : (lst 32 m).take (k + 1) = (lst 32 m).take k ++ [c] := by
   obtain ⟨hl, rfl⟩ := List.getElem?_eq_some_iff.1 hc
   exact List.take_succ_eq_append_getElem hl
  rw [e, List.nodup_append] at h2
  exact h2.2.2 c q c (by simp) rfl
 have er : zlw rows j ((lst 32 m).take k) c = rows c := by unfold zlw; rw [if_neg hnd]
 rw [er] at q2
 have hl := hrows c hcb
 obtain ⟨p, hp⟩ := zal (rows c) j (by omega)
 obtain ⟨pl, hpl⟩ := zal (rows c) ((rows c).length - 1) (by omega)
 have ep : (rows c).getD j Pt.zero = p := by rw [List.getD_eq_getElem?_getD, hp]; rfl
 have epl : (rows c).getD ((rows c).length - 1) Pt.zero = pl := by rw [List.getD_eq_getElem?_getD, hpl]; rfl
 refine (zye q2 j p hp pl hpl W.heap.size (zaa hk.cell rfl)).mono ?_
 rintro e w' ⟨rfl, k1, k2⟩
 have hsc := zqd k2
 refine ⟨by rw [ep, z5d], ⟨?_, hk.st.trans hsc fun y hy e => .inr ⟨c, e⟩, hsc.at hk.cell fun e => ?_⟩, ⟨hsc.os, hsc.tape, hsc.output, hsc.size, fun y hy hn => hsc.block y hy fun e => hn ?_⟩⟩
 ·rw [ztw rows j hc]
  have := hk.tb.z7k q1 k1 hsc
  unfold tk
  rw [epl]
  exact this
 ·have := hlt _ (by rw [e]; simp); omega
 have := hlt y (by rw [e]; simp); omega
theorem zgc {cur : Array Value} {own : List (Nat × Nat)} {j : Nat} {p : Nat × Nat} (hc : cur.toList.take (own.length * 2) = zae own) (hj : own[j]? = some p) : cur[j * 2]? = some (.int .i64 (p.1 : Int)) /\ cur[j * 2 + 1]? = some (.int .i64 (p.2 : Int)) := by
 have hl := (List.getElem?_eq_some_iff.1 hj).1
 have h := zkn hj
 rw [<- hc, List.getElem?_take_of_lt (by omega), List.getElem?_take_of_lt (by omega)] at h
 simpa using h
theorem zxf {w : World} {g j last : Nat} {a b : Value} {cur : Array Value} {ty : TypeId} (h : w.heap[g]? = some (.cells cur ty (0, 0))) (c0 : cur[last * 2]? = some a) (c1 : cur[last * 2 + 1]? = some b) :
  ((w.setCell ⟨g, j * 2, none⟩ a).setCell ⟨g, j * 2 + 1, none⟩ b).cell? ⟨g, last * 2, none⟩ = some a /\ ((w.setCell ⟨g, j * 2, none⟩ a).setCell ⟨g, j * 2 + 1, none⟩ b).cell? ⟨g, last * 2 + 1, none⟩ = some b := by
 have h1 := heap_setCell_same w g (j * 2) cur ty a h
 have h2 := heap_setCell_same _ g (j * 2 + 1) _ ty b h1
 have l0 := (Array.getElem?_eq_some_iff.1 c0).1
 have l1 := (Array.getElem?_eq_some_iff.1 c1).1
 refine ⟨zaa h2 ?_, zaa h2 ?_⟩
 ·rw [Array.getElem?_setIfInBounds, if_neg (by omega), Array.getElem?_setIfInBounds]
  by_cases e : j = last
  ·rw [if_pos (by omega), if_pos (by omega)]
  rw [if_neg (by omega)]; exact c0
 rw [Array.getElem?_setIfInBounds]
 by_cases e : j = last
 ·rw [if_pos (by omega), if_pos (by simpa using (by omega))]
 rw [if_neg (by omega), Array.getElem?_setIfInBounds, if_neg (by omega)]; exact c1
set_option maxRecDepth 100000 in
theorem zxx {B : Nat} {W : World} {f : Nat -> Nat × Nat × Nat} {n : Nat} {x : TV} {m : Nat} {ws : List Nat} {own : List (Nat × Nat)} {rows : Nat -> List Pt} (h : Tb B W f n x m ws own rows) (hlt : ∀ k, f k ≠ (0, 0, 0) -> k < W.heap.size) (hm : m < 65536) (j : Nat) (hj : j < own.length) (hrows : ∀ c, m.testBit c = true -> (rows c).length = own.length) (ho : own.length <= 100)
  {y : Nat × Nat} (hy : own[own.length - 1]? = some y) :
  Calls Tryz.prog 174 #[.pointer (some ⟨x.tb, 0, none⟩), .int .i64 (j : Int)] W fun e W' => ∃ v, e = .returned v /\ Prts W.heap.size W' v ((lst 32 m).map fun c => mk c ((rows c).getD j Pt.zero)) /\ (∃ ov', ov'.ownBlock = x.ov.ownBlock /\ Tb B W' f n ⟨x.tb, ov', x.cm, x.cb⟩ m ws (taken own j y) (fun c => tk (rows c) j)) /\ St (fun k => cls n (f k)) W W' := by
 obtain ⟨W1, hW1⟩ : ∃ W1, W1 = W.alloc (.cells #[.int .i64 (j : Int)] 3) := ⟨_, rfl⟩
 have b1 : Below W.heap.size W W1 := by rw [hW1]; exact bAl _ _
 have TK := hid (taking h hlt hm j hj hrows hW1)
 have HW1 := hid hW1
 have B1 := hid b1
 obtain ⟨last, hlast⟩ : ∃ last, own.length = last + 1 := ⟨own.length - 1, by omega⟩
 have HLT := hid hlt
 have HY := hid hy
 have hz1 : W1.heap.size = W.heap.size + 1 := by rw [hW1]; simp
 have hov : x.ov.ownBlock = x.ov.ownBlock := rfl
 obtain ⟨g, cap, hovv⟩ : ∃ g cap, x.ov = .slice (some ⟨g, 0, none⟩) own.length cap := by
  rcases h.own.2 with ⟨-, q⟩ | ⟨g, cap, cur, q, -⟩
  ·omega
  exact ⟨g, cap, q⟩
 clear h hlt hrows hy hW1 b1 hov
 go_enter Tryz.func174, Tryz.ntmps174
 go_upto_region 1 with fail
 rw [<- HW1.out]
 go_wp2_with fail
 refine TK.out.mono ?_
 rintro e w2 ⟨v, rfl, hv, hk, hs⟩
 have V2 := hid hv
 have K2 := hid hk
 have c1 := hk.tb.c1
 rw [hovv] at c1
 obtain ⟨g', cap', cur, e1, e2, e3, e4, e5, e6, e7⟩ := (hk.tb.own.2).resolve_left (by omega)
 obtain ⟨rfl, rfl⟩ : g = g' /\ cap = cap' := by rw [hovv] at e1; simpa using e1
 have hn1 : ((own.length : Nat) : Int) - 1 = (last : Int) := by omega
 have hji : (j : Int) < (own.length : Int) := by omega
 have hli : (last : Int) < (own.length : Int) := by omega
 have hoi : (own.length : Int) <= 100 := by omega
 have hci : (own.length : Int) <= (cap : Int) := by omega
 have hlc : (last : Int) <= (cap : Int) := by omega
 have hcm : (cap : Int) <= 9223372036854775807 := by unfold maxLen at e5; omega
 have hyl : own[last]? = some y := by have := HY.out; rw [hlast] at this; simpa using this
 obtain ⟨p, hp⟩ := zal own j hj
 have zl := zgc e7 hyl
 have zj := zgc e7 hp
 have d0 := zaa e3 zl.1
 have d1 := zaa e3 zl.2
 have d2 := zaa e3 zj.1
 have d3 := zaa e3 zj.2
 have d4 := zac e3 (j * 2)
 have d5 := zac e3 (j * 2 + 1)
 have dc := zaa hk.cell (j := 0) rfl
 have hgo : x.ov.ownBlock = some g := by rw [hovv]; rfl
 have hgt := hk.tb.zvs hgo
 have hgl : g < W.heap.size := HLT.out _ (by rw [hk.tb.fov hgo]; simp)
 have htg : x.tb ≠ g := fun e => hgt.1 e.symm
 have hWg : W.heap.size ≠ g := by omega
 have KL := hid (zxf (j := j) e3 zl.1 zl.2)
 have K0 : Hid (∀ q, (w2.drewN q).cell? ⟨x.tb, 1, none⟩ = some (.slice (some ⟨g, 0, none⟩) own.length cap) /\ (w2.drewN q).cell? ⟨W.heap.size, 0, none⟩ = some (.int .i64 (j : Int)) /\ (w2.drewN q).cell? ⟨g, last * 2, none⟩ = some (.int .i64 (y.1 : Int)) /\ (w2.drewN q).cell? ⟨g, last * 2 + 1, none⟩ = some (.int .i64 (y.2 : Int))) := fun q =>
  ⟨At.seen (At.zad w2 q) (Nat.le_refl _) c1, At.seen (At.zad w2 q) (Nat.le_refl _) dc, At.seen (At.zad w2 q) (Nat.le_refl _) d0, At.seen (At.zad w2 q) (Nat.le_refl _) d1⟩
 have HLA := hid hlast
 have HOV := hid hovv
 have E3 := hid e3
 have E7 := hid e7
 have S2 := hid hs
 clear hv hk hs e1 e3 e7 zl zj hyl hp HY hlast hovv hgo TK
 go_wp2_with fail
 go_region_held3 (fun W' => W'.cell? ⟨x.tb, 1, none⟩ = some (.slice (some ⟨g, 0, none⟩) own.length cap) /\ W'.cell? ⟨W.heap.size, 0, none⟩ = some (.int .i64 (j : Int)) /\ W'.cell? ⟨g, last * 2, none⟩ = some (.int .i64 (y.1 : Int)) /\ W'.cell? ⟨g, last * 2 + 1, none⟩ = some (.int .i64 (y.2 : Int)))
  (first | exact K0.out 0 | exact K0.out 1 | exact ⟨zbk (K0.out 1).1 htg, zbk (K0.out 1).2.1 hWg, KL.out.1, KL.out.2⟩) (fail)
 obtain ⟨w3, hw3⟩ : ∃ w3, w3 = ((w2.setCell ⟨g, j * 2, none⟩ (.int .i64 (y.1 : Int))).setCell ⟨g, j * 2 + 1, none⟩ (.int .i64 (y.2 : Int))).drew := ⟨_, rfl⟩
 rw [<- hw3]
 have s23 : St (fun k => k = g) w2 w3 := by
  rw [hw3]
  have q := (St.setCell (S := fun k => k = g) (a := w2) (p := ⟨g, j * 2, none⟩) (.int .i64 (y.1 : Int)) rfl).trans (St.setCell (S := fun k => k = g) (p := ⟨g, j * 2 + 1, none⟩) (.int .i64 (y.2 : Int)) rfl) fun _ _ q => q
  exact ⟨q.os, q.tape, q.output, q.size, q.block⟩
 have hg3 : w3.heap[g]? = some (.cells ((cur.setIfInBounds (j * 2) (.int .i64 (y.1 : Int))).setIfInBounds (j * 2 + 1) (.int .i64 (y.2 : Int))) 144 (0, 0)) := by
  rw [hw3]
  exact heap_setCell_same _ g (j * 2 + 1) _ 144 _ (heap_setCell_same w2 g (j * 2) cur 144 _ E3.out)
 have hb3 := s23.at K2.out.tb.box htg
 have t1 : w3.cell? ⟨x.tb, 1, none⟩ = some (.slice (some ⟨g, 0, none⟩) own.length cap) := by
  have := zaa hb3 (j := 1) rfl
  rw [HOV.out] at this
  exact this
 have t2 := zac hb3 1
 have S23 := hid s23
 have G3 := hid hg3
 have X3 := hid hb3
 clear hw3 s23 hg3 hb3 K0 KL d0 d1 d2 d3 d4 d5 dc c1
 go_wp2_with fail
 obtain ⟨w4, hw4⟩ : ∃ w4, w4 = w3.setCell ⟨x.tb, 1, none⟩ (.slice (some ⟨g, 0, none⟩) last cap) := ⟨_, rfl⟩
 rw [<- hw4]
 have s34 : St (fun k => k = x.tb) w3 w4 := by rw [hw4]; exact St.setCell _ rfl
 have hgo : x.ov.ownBlock = some g := by rw [HOV.out]; rfl
 have T4 := K2.out.tb
 rw [List.take_length] at T4
 have T5 := T4.zpi (rows' := fun c => tk (rows c) j) fun c hc => by
  unfold zlw
  rw [if_pos ((zbc m c 32).2 ⟨Nat.lt_of_lt_of_le (Nat.lt_of_not_le fun q => by rw [At.zfq (n := 16) hm q] at hc; cases hc) (by decide : 16 <= 32), hc⟩)]
 have s24 : St (fun k => f k = (4, n, 0)) w2 w4 := by
  refine (St.trans (S := fun k => f k = (4, n, 0)) ⟨S23.out.os, S23.out.tape, S23.out.output, S23.out.size, fun k hk hn => S23.out.block k hk fun e => hn (by rw [e]; exact T5.fov hgo)⟩ s34 fun k _ e => ?_)
  rw [e]; exact T5.ftb
 have FN := T5.ycd (ov' := .slice (some ⟨g, 0, none⟩) last cap) (own' := taken own j y) hgo.symm s24 (by
   rw [hw4]
   exact heap_setCell_same w3 x.tb 1 _ 271 _ X3.out) ((T5.map.kept S23.out (fun e => (T5.zvs hgo).2 e.symm)).kept s34 fun e => T5.ne e.symm) (by
   have hl : (taken own j y).length = last := by rw [zga]; have := HLA.out; omega
   show World.ownsRow _ _ _ _ _ _ _
   rw [hl]
   refine ⟨by rw [zdm, hl], .inr ⟨g, cap, _, rfl, e2, s34.at G3.out (fun e => htg e.symm), by have := HLA.out; omega, e5, by simpa using e6, ?_⟩⟩
   have := zql (j := j) (y := y) E7.out
   rw [show last = own.length - 1 by have := HLA.out; omega, <- this]
   simp [Ro.gI])
 have V4 : Prts W.heap.size w4 v ((lst 32 m).map fun c => mk c ((rows c).getD j Pt.zero)) := by
  have v1 := V2.out.kept S23.out fun k hk e => by have := (V2.out.lt k hk).1; omega
  have v2 := v1.kept s34 fun k hk e => by
   have := (V2.out.lt k hk).1
   have := HLT.out x.tb (by rw [T5.ftb]; simp)
   omega
  exact v2.lower (by omega)
 have SF : St (fun k => cls n (f k)) W w4 := by
  have q := (St.of_below (S := fun k => cls n (f k)) B1.out).trans K2.out.st fun k _ q => q
  exact q.trans s24 fun k _ e => .inl e
 have VH := hid V4
 have FH := hid FN
 have SH := hid SF
 clear V4 FN SF T4 T5 s24 s34 hw4 S2 V2 K2 E3 E7 S23 G3 X3
 go_wp2_with fail
 go_ret
 exact ⟨_, rfl, VH.out, ⟨.slice (some ⟨g, 0, none⟩) last cap, hgo.symm, FH.out⟩, SH.out⟩
theorem ycq (f : Nat -> Nat × Nat × Nat) (n N : Nat) (hlt : ∀ k, f k ≠ (0, 0, 0) -> k < N) : ∃ f', (∀ k, ¬ cls n (f' k)) /\ Rec (cls n) f f' N N := by
 classical
 refine ⟨fun k => if cls n (f k) then (0, 0, 0) else f k, fun k => ?_, ⟨fun l h0 hc k => ?_, fun k hk => ?_, fun k hk => ?_⟩⟩
 ·show ¬ cls n (if cls n (f k) then (0, 0, 0) else f k)
  by_cases e : cls n (f k)
  ·rw [if_pos e]; exact zdk n
  rw [if_neg e]; exact e
 ·show (if cls n (f k) then (0, 0, 0) else f k) = l ↔ _
  by_cases e : cls n (f k)
  ·rw [if_pos e]
   exact ⟨fun q => absurd q.symm h0, fun q => absurd (q ▸ e) hc⟩
  rw [if_neg e]
 ·change cls n (if cls n (f k) then (0, 0, 0) else f k) at hk
  by_cases e : cls n (f k)
  ·exact .inl e
  rw [if_neg e] at hk; exact .inl hk
 change (if cls n (f k) then (0, 0, 0) else f k) ≠ (0, 0, 0) at hk
 by_cases e : cls n (f k)
 ·rw [if_pos e] at hk; exact absurd rfl hk
 rw [if_neg e] at hk; exact hlt k hk
theorem zpr (tab : Nat -> Option (List (Nat × Nat))) (tv : Nat -> TV) (n : Nat) : zau (tput tab n none) tv = gput (zau tab tv) n none := by
 funext k
 unfold zau gput tput
 by_cases e : k = n <;> simp [e]
theorem zxd (g : Nat -> Option Nat) (n : Nat) (a b : Option Nat) : gput (gput g n a) n b = gput g n b := by
 funext k
 unfold gput
 by_cases e : k = n <;> simp [e]
section
variable {ex ex' : Option Nat} {B : Nat} {W W' : World} {sb : Nat} {c : CV} {s : SD} {n : Nat} {x : TV} {m : Nat} {own : List (Nat × Nat)} {rows : Nat -> List Pt}
theorem Sx.drop (h : Sx ex B W sb c s n x m own rows) (hp : PMap W' c.tm (gput (gput (zau c.tab c.tv) n (some x.tb)) n none)) (hs : St (fun k => k = c.tm) W W') (hlk : Lk ex' (tput c.tab n none) c.seat s) :
  ∃ f', Sto ex' B W' sb { c with f := f', tab := tput c.tab n none } s /\ Gw c { c with f := f', tab := tput c.tab n none } W W' /\ ∀ k, f' k ≠ (0, 0, 0) -> c.f k ≠ (0, 0, 0) := by
 obtain ⟨f', d1, d2⟩ := ycq c.f n W.heap.size (fun k hk => (h.lt k hk).2)
 have n1 : ¬ cls n (1, 0, 0) := fun q => (zan q).2.1 rfl
 have n2 : ¬ cls n (2, 0, 0) := fun q => (zan q).2.2.1 rfl
 have n3 : ¬ cls n (3, 0, 0) := fun q => (zan q).2.2.2 rfl
 have nt' : ∀ {k : Nat}, c.f k ≠ (1, 0, 0) -> k ≠ c.tm := fun q e => q (by rw [e]; exact h.ftm)
 refine ⟨f', ⟨hs.at h.box (h.map.zcg h.box), zai h.wd hs fun k hk e => ?_, ?_, ?_, hs.at h.seats (h.map.zcg h.seats), ?_, ?_, fun k => (d2.out _ (by simp) n1 k).trans (h.fp k), fun k hk => ?_, h.okw, h.n2, hlk, fun k n' hk => ?_, h.small⟩, ⟨⟨hs.os, hs.tape, hs.output, hs.size, fun k hk hn => hs.block k hk fun e => hn ?_⟩, fun k hk => .inl ?_⟩, fun k hk => by rw [(d2.out _ hk (d1 k) k).1 rfl]; exact hk⟩
 ·obtain ⟨q, hq⟩ := zbd h.wd hk
  exact h.map.zcg hq e
 ·exact zdq (h.atl.kept hs fun k hk e => nt' (by rw [hk]; simp) e) fun k => d2.out _ (by simp) n3 k
 ·exact zdw (h.rol.kept (zkf hs) fun k hk e => nt' (by rw [hk]; simp) e) fun k => d2.out _ (by simp) n2 k
 ·show PMap W' c.tm (zau (tput c.tab n none) c.tv)
  rw [zpr, <- zxd _ n (some x.tb)]
  exact hp
 ·intro n' own' h'
  change tput c.tab n none n' = some own' at h'
  have hne : n' ≠ n := fun e => by rw [e, zcm] at h'; cases h'
  rw [zeu _ hne] at h'
  obtain ⟨m', q1, q2⟩ := h.tabs n' own' hne h'
  exact ⟨m', q1, q2.move hs (fun k hk e => nt' (zan hk).2.1 e) fun l hl k => d2.out l (zan hl).1 (fun q => hne (zgy hl q)) k⟩
 ·have hk' : f' k ≠ (0, 0, 0) := hk
  have := h.lt k (by rw [(d2.out _ hk' (d1 k) k).1 rfl]; exact hk')
  exact ⟨this.1, Nat.lt_of_lt_of_le this.2 hs.size⟩
 ·show tput c.tab n none n' ≠ none
  have hne : n' ≠ n := fun e => d1 k (e ▸ hk)
  rw [zeu _ hne]
  have hk' : cls n' (f' k) := hk
  refine (h.only k n' (by rw [(d2.out _ (zan hk').1 (d1 k) k).1 rfl]; exact hk')).elim (fun q => absurd q hne) id
 ·rw [e, h.ftm]; simp
 have hk' : f' k ≠ (0, 0, 0) := hk
 rw [(d2.out _ hk' (d1 k) k).1 rfl]; exact hk'
end
theorem ztq (s : SD) {own : List (Nat × Nat)} {j : Nat} {y : Nat × Nat} (hy : own[own.length - 1]? = some y) (q : Nat) : rowsOf s (taken own j y) q = tk (rowsOf s own q) j := by
 unfold rowsOf taken tk
 rw [List.map_dropLast, List.map_set]
 congr 2
 rw [List.length_map, List.getD_eq_getElem?_getD, List.getElem?_map, hy]
 rfl
theorem z8j (s : SD) {own : List (Nat × Nat)} {j i g : Nat} (hj : own[j]? = some (i, g)) (q : Nat) : (rowsOf s own q).getD j Pt.zero = ptAt (s.at i) q := by
 unfold rowsOf
 rw [List.getD_eq_getElem?_getD, List.getElem?_map, hj]
 rfl
theorem zkp {s : SD} {i g j : Nat} {own : List (Nat × Nat)} (hok : okE s.ws (s.at i)) (hw : s.ws.length <= 16) (hj : own[j]? = some (i, g)) : ((lst 32 (mskP (s.at i))).map fun q => mk q ((rowsOf s own q).getD j Pt.zero)) = s.at i := by
 have e : (fun q => mk q ((rowsOf s own q).getD j Pt.zero)) = fun q => mk q (ptAt (s.at i) q) := by
  funext q
  rw [z8j s hj]
 rw [e]
 exact zvj hok.1 hw
structure At1 (c : CV) (s : SD) (i g n j m : Nat) (own : List (Nat × Nat)) (y : Nat × Nat) : Prop where
 seat : c.seat[i]? = some (n, j)
 tab : c.tab n = some own
 here : own[j]? = some (i, g)
 set : s.sets[n]? = some m
 msk : m = mskP (s.at i)
 last : own[own.length - 1]? = some y
 few : own.length <= 64
 ok : okE s.ws (s.at i)
theorem Sto.stands {ex : Option Nat} {B : Nat} {W : World} {sb : Nat} {c : CV} {s : SD} (h : Sto ex B W sb c s) {i g : Nat} (ha : al s i g) (he : ex ≠ some i) : ∃ n j m own y, At1 c s i g n j m own y := by
 obtain ⟨n, j, own, e1, e2, e3, e4⟩ := h.lk.here i g ha he
 have hj := (List.getElem?_eq_some_iff.1 e3).1
 obtain ⟨y, hy⟩ := zal own (own.length - 1) (by omega)
 exact ⟨n, j, _, own, y, e1, e2, e3, e4, rfl, hy, Nat.le_trans (h.lk.few e2) h.rol.small, h.lk.ok i g ha he⟩
set_option maxRecDepth 100000 in
theorem zmz {B : Nat} {W : World} {sb : Nat} {c : CV} {s : SD} {i g : Nat} (h : Sto none B W sb c s) (ha : al s i g) :
  Calls Tryz.prog 154 #[.pointer (some ⟨sb, 0, none⟩), .agg #[.int .i64 (i : Int), .int .i64 (g : Int)]] W fun e W' => ∃ v, e = .returned v /\ Prts W.heap.size W' v (s.at i) /\ ∃ c', Sto (some i) B W' sb c' s /\ c'.t = c.t /\ Gw c c' W W' /\ ∀ k, c'.f k ≠ (0, 0, 0) -> c.f k ≠ (0, 0, 0) := by
 obtain ⟨n, j, m, own, y, A⟩ := h.stands ha (by simp)
 obtain ⟨w1, hw1⟩ : ∃ w1, w1 = W.alloc (.cells #[.int .i64 (i : Int), .int .i64 (g : Int)] 144) := ⟨_, rfl⟩
 have HW1 := hid hw1
 have b1 : Below W.heap.size W w1 := by rw [hw1]; exact bAl _ _
 have r1 : w1.heap[W.heap.size]? = some (.cells #[.int .i64 (i : Int), .int .i64 (g : Int)] 144 (0, 0)) := by rw [hw1]; exact heap_alloc_new W _
 have hz1 : w1.heap.size = W.heap.size + 1 := by rw [hw1]; simp
 have KK : Hid (∀ W', Below w1.heap.size w1 W' -> W'.cell? ⟨sb, 4, none⟩ = some (.slice (some ⟨c.sv, 0, none⟩) c.seat.length c.seat.length) /\ W'.cell? ⟨W.heap.size, 0, none⟩ = some (.int .i64 (i : Int)) /\ W'.cell? ⟨c.sv, i * 2, none⟩ = some (.int .i64 (n : Int)) /\ W'.cell? ⟨c.sv, i * 2 + 1, none⟩ = some (.int .i64 (j : Int))) := fun W' hb => by
  have h' := (h.later b1).later hb
  exact ⟨h'.c4, zaa (zab hb (Nat.le_refl _) r1) rfl, (h'.zmt A.seat).1, (h'.zmt A.seat).2⟩
 have hi := ziv ha
 have hsi : (i : Int) < (c.seat.length : Int) := by have := h.lk.len; omega
 have hn5 : n <= 65536 := by
  have := (List.getElem?_eq_some_iff.1 A.set).1
  have := h.atl.ok.small
  simp at this
  omega
 have B1 := hid b1
 have H := hid h
 have HA := hid ha
 have AA := hid A
 have R1 := hid r1
 clear hw1 b1 r1 h ha A
 go_enter Tryz.func154, Tryz.ntmps154
 go_upto_region 1 with fail
 rw [<- HW1.out]
 go_region_held3 (fun W' => W'.cell? ⟨sb, 4, none⟩ = some (.slice (some ⟨c.sv, 0, none⟩) c.seat.length c.seat.length) /\ W'.cell? ⟨W.heap.size, 0, none⟩ = some (.int .i64 (i : Int)) /\ W'.cell? ⟨c.sv, i * 2, none⟩ = some (.int .i64 (n : Int)) /\ W'.cell? ⟨c.sv, i * 2 + 1, none⟩ = some (.int .i64 (j : Int)))
  (first | exact KK.out _ (Below.refl _ _).drew | exact KK.out _ ((Below.refl _ _).drew.alloc (by simp) _) | exact KK.out _ (((Below.refl _ _).drew.alloc (by simp) _).setCell (by simp) _) | exact KK.out _ ((((Below.refl _ _).drew.alloc (by simp) _).setCell (by simp) _).setCell (by simp) _)) (fail)
 obtain ⟨w2, hw2⟩ : ∃ w2, w2 = (w1.alloc (.cells #[.int .i64 (n : Int), .int .i64 (j : Int)] 267)).drew := ⟨_, rfl⟩
 rw [<- hw2]
 have b12 : Below w1.heap.size w1 w2 := by rw [hw2]; exact (bAl _ _).drew
 have b2 : Below W.heap.size W w2 := B1.out.trans (b12.mono B1.out.size)
 have r2 : w2.heap[W.heap.size + 1]? = some (.cells #[.int .i64 (n : Int), .int .i64 (j : Int)] 267 (0, 0)) := by
  rw [hw2, <- hz1]
  exact heap_alloc_new w1 (.cells #[.int .i64 (n : Int), .int .i64 (j : Int)] 267)
 have h2 := H.out.later b2
 obtain ⟨x, hx⟩ : ∃ x, x = c.tv n := ⟨_, rfl⟩
 have X2 := hid (h2.out AA.out.tab AA.out.set)
 have LE : So.lk (zau c.tab c.tv) (n : Int) = some (c.tv n).tb := by rw [zjq]; unfold zau; rw [AA.out.tab]; rfl
 have K2 : Hid (∀ W', Below w2.heap.size w2 W' -> W'.cell? ⟨sb, 2, none⟩ = some (.map (some c.tm)) /\ W'.cell? ⟨W.heap.size + 1, 0, none⟩ = some (.int .i64 (n : Int)) /\ (Instr.lookup 178 (.map (some c.tm)) (.int .i64 (n : Int)) false).run Tryz.prog W' = .ok (.pointer (some ⟨x.tb, 0, none⟩)) W') := fun W' hb => by
  refine ⟨(h2.later hb).c2, zaa (zab hb (Nat.le_refl _) r2) rfl, ?_⟩
  have := (h2.later hb).look (n : Int) (zaj (by omega) (by omega))
  rw [LE, <- hx] at this
  exact this
 have hj := (List.getElem?_eq_some_iff.1 AA.out.here).1
 have hm16 : m < 65536 := by have := h2.atl.ok.u16 (List.mem_of_getElem? AA.out.set); exact this
 have R2 := hid r2
 have B2 := hid b2
 have PC : Hid (∀ W', Below w2.heap.size w2 W' -> Calls Tryz.prog 174 #[.pointer (some ⟨x.tb, 0, none⟩), .int .i64 (j : Int)] W' fun e W3 => ∃ v, e = .returned v /\ Prts W.heap.size W3 v (s.at i) /\ (∃ ov', Sx none B W3 sb c s n ⟨x.tb, ov', x.cm, x.cb⟩ m (taken own j y) (fun q => tk (rowsOf s own q) j)) /\ Gw c c W W3 /\ W3.heap[W.heap.size + 1]? = some (.cells #[.int .i64 (n : Int), .int .i64 (j : Int)] 267 (0, 0)) /\ (∀ k, v.ownBlock = some k -> W.heap.size + 2 <= k)) := fun W' hb => by
  have X' := X2.out.later hb
  rw [<- hx] at X'
  refine (zxx X'.tb (fun k hk => (X'.lt k hk).2) hm16 j hj (fun q _ => by unfold rowsOf; simp) (by have := AA.out.few; omega) AA.out.last).mono ?_
  rintro e W3 ⟨v, rfl, q1, ⟨ov', q2, q3⟩, q4⟩
  have hb' : W.heap.size + 2 <= W'.heap.size := by
   have e1 := (Array.getElem?_eq_some_iff.1 R2.out).1
   have e2 := hb.size
   omega
  have RT := X'.yal q3 (Rec.refl (cls n) c.f (fun k hk => (X'.lt k hk).2) q4.size) q4
  rw [AA.out.msk] at q1
  rw [zkp AA.out.ok H.out.okw.1 AA.out.here] at q1
  refine ⟨v, rfl, q1.lower (by omega), ⟨ov', RT.1⟩, ((Gw.of_below B2.out).trans (Gw.of_below hb)).trans RT.2, q4.at (zab hb (Nat.le_refl _) R2.out) fun e => ?_, fun k hk => Nat.le_trans hb' (q1.lt k hk).1⟩
  have := (H.out.lt _ (zan e).1).2
  omega
 have HX := hid hx
 clear hw2 b12 b2 r2 h2 LE hx X2 KK
 go_upto_region 2 with fail
 go_region_held3 (fun W' => W'.cell? ⟨sb, 2, none⟩ = some (.map (some c.tm)) /\ W'.cell? ⟨W.heap.size + 1, 0, none⟩ = some (.int .i64 (n : Int)) /\ (Instr.lookup 178 (.map (some c.tm)) (.int .i64 (n : Int)) false).run Tryz.prog W' = .ok (.pointer (some ⟨x.tb, 0, none⟩)) W') (first | exact K2.out _ (Below.refl _ _).drew | exact K2.out _ (Below.refl _ _)) (fail)
 have y1 : w2.drew.cell? ⟨W.heap.size + 1, 1, none⟩ = some (.int .i64 (j : Int)) := zaa (W := w2) R2.out rfl
 clear K2
 go_wp2_with fail
 refine (PC.out _ (by first | exact (Below.refl _ _).drew | exact Below.refl _ _)).mono ?_
 rintro e w4 ⟨v, rfl, hv, ⟨ov', hx4⟩, hg4, hr4, hvb⟩
 obtain ⟨t, ht⟩ : ∃ t, t = (taken own j y).length := ⟨_, rfl⟩
 obtain ⟨oa, oc, hov⟩ := zaf hx4.tb.own
 change ov' = _ at hov
 rw [<- ht] at hov
 have htl : t = own.length - 1 := by rw [ht, zga]
 have t1 : w4.cell? ⟨x.tb, 1, none⟩ = some (.slice oa t oc) := by have := hx4.tb.c1; change _ = some ov' at this; rw [hov] at this; exact this
 have hti : (t : Int) <= 64 := by have := AA.out.few; omega
 have X4 := hid hx4
 have G4 := hid hg4
 have R4 := hid hr4
 have V4 := hid hv
 have VB := hid hvb
 have HOV := hid hov
 have HTL := hid htl
 have LV := hid (H.out.lk.leave AA.out.seat AA.out.tab AA.out.here AA.out.last)
 have RTK : Hid (∀ q, m.testBit q = true -> rowsOf s (taken own j y) q = tk (rowsOf s own q) j) := fun q _ => ztq s AA.out.last q
 have K4 : Hid (∀ W', Below w4.heap.size w4 W' -> W'.cell? ⟨W.heap.size + 1, 1, none⟩ = some (.int .i64 (j : Int)) /\ W'.cell? ⟨x.tb, 1, none⟩ = some (.slice oa t oc)) := fun W' hb => ⟨zaa (zab hb (Nat.le_refl _) R4.out) rfl, At.seen hb (Nat.le_refl _) t1⟩
 have hsvW : c.sv < W.heap.size := (H.out.lt _ (by rw [H.out.fsv]; simp)).2
 have htmW : c.tm < W.heap.size := (H.out.lt _ (by rw [H.out.ftm]; simp)).2
 clear hx4 hg4 hr4 hv hvb hov htl ht y1 PC
 by_cases hA : j < t
 ·have hAi : (j : Int) < (t : Int) := by omega
  obtain ⟨gg, cap, cur, e1, e2, e3, e4, e5, e6, e7⟩ := (X4.out.tb.own.2).resolve_left (by rw [zga, <- HTL.out]; omega)
  obtain ⟨rfl, rfl⟩ : oa = some ⟨gg, 0, none⟩ /\ oc = cap := by
   change ov' = _ at e1
   rw [HOV.out] at e1
   simp at e1
   exact ⟨e1.1, e1.2.2⟩
  have hyj : (taken own j y)[j]? = some y := by rw [zle (by have := HTL.out; omega), if_pos rfl]
  have zc := zgc e7 hyj
  have fgg : c.f gg = (4, n, 0) := X4.out.tb.fov (by show ov'.ownBlock = some gg; rw [HOV.out]; rfl)
  have ftb : c.f x.tb = (4, n, 0) := X4.out.tb.ftb
  have hyb := (H.out.lk.back n own AA.out.tab).2 _ y.1 y.2 AA.out.last
  have hys := (List.getElem?_eq_some_iff.1 hyb.2.2.1).1
  have hysi : (y.1 : Int) < (c.seat.length : Int) := by omega
  have g1 := zaa e3 zc.1
  have sc := zkn hyb.2.2.1
  have z0 : w4.cell? ⟨c.sv, y.1 * 2, none⟩ = some (.int .i64 (n : Int)) := zaa X4.out.seats (by simpa using sc.1)
  have z1 : w4.cell? ⟨c.sv, y.1 * 2 + 1, none⟩ = some (.int .i64 ((own.length - 1 : Nat) : Int)) := zaa X4.out.seats (by simpa using sc.2)
  have v0 := zac X4.out.seats (y.1 * 2)
  have v1 := zac X4.out.seats (y.1 * 2 + 1)
  have q0 : w4.cell? ⟨sb, 4, none⟩ = some (.slice (some ⟨c.sv, 0, none⟩) c.seat.length c.seat.length) := zaa X4.out.box rfl
  have q1 := zaa R4.out (j := 0) rfl
  have q2 := zaa R4.out (j := 1) rfl
  have n0 : sb ≠ c.sv := fun e => by have := H.out.box; rw [e, H.out.seats] at this; simp at this
  have n1 : x.tb ≠ c.sv := fun e => by rw [e, H.out.fsv] at ftb; simp at ftb
  have n2 : gg ≠ c.sv := fun e => by rw [e, H.out.fsv] at fgg; simp at fgg
  have n3 : W.heap.size + 1 ≠ c.sv := by omega
  have K5 : Hid (∀ q, (w4.drewN q).cell? ⟨sb, 4, none⟩ = some (.slice (some ⟨c.sv, 0, none⟩) c.seat.length c.seat.length) /\ (w4.drewN q).cell? ⟨x.tb, 1, none⟩ = some (.slice (some ⟨gg, 0, none⟩) t oc) /\ (w4.drewN q).cell? ⟨W.heap.size + 1, 0, none⟩ = some (.int .i64 (n : Int)) /\ (w4.drewN q).cell? ⟨W.heap.size + 1, 1, none⟩ = some (.int .i64 (j : Int)) /\ (w4.drewN q).cell? ⟨gg, j * 2, none⟩ = some (.int .i64 (y.1 : Int))) := fun q =>
   have b := At.zad w4 q
   ⟨At.seen b (Nat.le_refl _) q0, At.seen b (Nat.le_refl _) t1, At.seen b (Nat.le_refl _) q1, At.seen b (Nat.le_refl _) q2, At.seen b (Nat.le_refl _) g1⟩
  clear e1 e3 e7 zc sc g1 q0 q1 q2 hyj
  go_wp2_with fail
  go_region_held3 (fun W' => W'.cell? ⟨W.heap.size + 1, 1, none⟩ = some (.int .i64 (j : Int)) /\ W'.cell? ⟨x.tb, 1, none⟩ = some (.slice (some ⟨gg, 0, none⟩) t oc)) (first | exact K4.out _ (Below.refl _ _).drew | exact K4.out _ (Below.refl _ _)) (fail)
  go_wp2_with fail
  go_region_held3 (fun W' => W'.cell? ⟨sb, 4, none⟩ = some (.slice (some ⟨c.sv, 0, none⟩) c.seat.length c.seat.length) /\ W'.cell? ⟨x.tb, 1, none⟩ = some (.slice (some ⟨gg, 0, none⟩) t oc) /\ W'.cell? ⟨W.heap.size + 1, 0, none⟩ = some (.int .i64 (n : Int)) /\ W'.cell? ⟨W.heap.size + 1, 1, none⟩ = some (.int .i64 (j : Int)) /\ W'.cell? ⟨gg, j * 2, none⟩ = some (.int .i64 (y.1 : Int)))
   (first | exact K5.out 0 | exact K5.out 1 | exact K5.out 2 | exact ⟨zbk (K5.out 1).1 n0, zbk (K5.out 1).2.1 n1, zbk (K5.out 1).2.2.1 n3, zbk (K5.out 1).2.2.2.1 n3, zbk (K5.out 1).2.2.2.2 n2⟩ | exact ⟨zbk (K5.out 2).1 n0, zbk (K5.out 2).2.1 n1, zbk (K5.out 2).2.2.1 n3, zbk (K5.out 2).2.2.2.1 n3, zbk (K5.out 2).2.2.2.2 n2⟩) (fail)
  obtain ⟨w5, hw5⟩ : ∃ w5, w5 = ((w4.setCell ⟨c.sv, y.1 * 2, none⟩ (.int .i64 (n : Int))).setCell ⟨c.sv, y.1 * 2 + 1, none⟩ (.int .i64 (j : Int))).drew.drew := ⟨_, rfl⟩
  rw [<- hw5]
  have s45 : St (fun k => k = c.sv) w4 w5 := by
   rw [hw5]
   have q := (St.setCell (S := fun k => k = c.sv) (a := w4) (p := ⟨c.sv, y.1 * 2, none⟩) (.int .i64 (n : Int)) rfl).trans (St.setCell (S := fun k => k = c.sv) (p := ⟨c.sv, y.1 * 2 + 1, none⟩) (.int .i64 (j : Int)) rfl) fun _ _ q => q
   exact ⟨q.os, q.tape, q.output, q.size, q.block⟩
  have hse : w5.heap[c.sv]? = some (.cells (zae (c.seat.set y.1 (n, j))).toArray 267 (0, 0)) := by
   rw [hw5]
   have e := heap_setCell_same _ c.sv (y.1 * 2 + 1) _ 267 (.int .i64 (j : Int)) (heap_setCell_same w4 c.sv (y.1 * 2) _ 267 (.int .i64 (n : Int)) X4.out.seats)
   refine Eq.trans e ?_
   rw [zos]
   simp [Ro.gI]
  have hlv := LV.out
  have hl1 : own.length - 1 ≠ 0 := by have := HTL.out; omega
  rw [left, if_neg hl1, seated, if_pos (by have := HTL.out; omega)] at hlv
  have FN := hid (X4.out.back hse s45 (by simp) rfl rfl rfl X4.out.n2 hlv RTK.out fun _ _ _ _ _ => rfl)
  have GN : Hid (Gw c { c with seat := c.seat.set y.1 (n, j), tab := tput c.tab n (some (taken own j y)), tv := zhd c.tv n ⟨x.tb, ov', x.cm, x.cb⟩ } W w5) := G4.out.trans ⟨⟨s45.os, s45.tape, s45.output, s45.size, fun k hk hn => s45.block k hk fun e => hn (by rw [e, H.out.fsv]; simp)⟩, fun k hk => .inl hk⟩
  have VN : Hid (Prts W.heap.size w5 v (s.at i)) := V4.out.kept s45 fun k hk e => by have := VB.out k hk; omega
  have t5 : w5.cell? ⟨x.tb, 1, none⟩ = some (.slice (some ⟨gg, 0, none⟩) t oc) := zax s45 t1 n1
  have tne : ¬ ((t : Int) = 0) := by omega
  clear hw5 s45 hse hlv K5 K4 z0 z1 v0 v1 t1
  go_wp2_with fail
  go_ret
  exact ⟨_, rfl, VN.out, _, FN.out, rfl, GN.out, fun _ q => q⟩
 have hAi : ¬ ((j : Int) < (t : Int)) := by omega
 go_wp2_with fail
 go_region_held3 (fun W' => W'.cell? ⟨W.heap.size + 1, 1, none⟩ = some (.int .i64 (j : Int)) /\ W'.cell? ⟨x.tb, 1, none⟩ = some (.slice oa t oc)) (first | exact K4.out _ (Below.refl _ _).drew | exact K4.out _ (Below.refl _ _)) (fail)
 have hlv := LV.out
 rw [seated, if_neg (by have := HTL.out; omega)] at hlv
 by_cases hB : t = 0
 ·rw [left, if_pos (by have := HTL.out; omega)] at hlv
  have X5 := hid (X4.out.later (Below.refl w4.heap.size w4).drew)
  obtain ⟨w5, hdel, hp5, hs5⟩ := (X5.out.map.kept (W' := w4.drew.drew) (T := fun _ => False) (St.of_below ((Below.refl _ _).drew)) id).drop Tryz.underlying178 n (by omega) 0
  have s5 : St (fun k => k = c.tm) w4.drew w5 := ⟨hs5.os, hs5.tape, hs5.output, hs5.size, hs5.block⟩
  have DR := hid (X5.out.drop hp5 s5 hlv)
  have VN : Hid (Prts W.heap.size w5 v (s.at i)) := (V4.out.later (Below.refl _ _).drew).kept s5 fun k hk e => by have := VB.out k hk; omega
  have q0 : w4.cell? ⟨sb, 2, none⟩ = some (.map (some c.tm)) := zaa X4.out.box rfl
  have q1 := zaa R4.out (j := 0) rfl
  have nsb : sb ≠ c.tm := H.out.map.zcg H.out.box
  have nW : W.heap.size + 1 ≠ c.tm := by omega
  have K5 : Hid (w4.drew.drew.cell? ⟨sb, 2, none⟩ = some (.map (some c.tm)) /\ w4.drew.drew.cell? ⟨W.heap.size + 1, 0, none⟩ = some (.int .i64 (n : Int))) := ⟨q0, q1⟩
  have K6 : Hid (w5.cell? ⟨sb, 2, none⟩ = some (.map (some c.tm)) /\ w5.cell? ⟨W.heap.size + 1, 0, none⟩ = some (.int .i64 (n : Int))) := ⟨zax s5 q0 nsb, zax s5 q1 nW⟩
  have t5 : w4.drew.cell? ⟨x.tb, 1, none⟩ = some (.slice oa t oc) := t1
  have G5 := hid (G4.out.trans (Gw.of_below (c := c) (Below.refl w4.heap.size w4).drew))
  clear hp5 hs5 s5 hlv q0 q1 K4 X5 t1
  subst hB
  go_wp2_with fail
  go_region_held3 (fun W' => W'.cell? ⟨sb, 2, none⟩ = some (.map (some c.tm)) /\ W'.cell? ⟨W.heap.size + 1, 0, none⟩ = some (.int .i64 (n : Int))) (first | exact K5.out | exact K6.out) (fail)
  clear hdel K5 K6
  obtain ⟨f', d1, d2, d3⟩ := DR.out
  have D1 := hid d1
  have D2 := hid (G5.out.trans d2)
  have D3 := hid d3
  clear d1 d2 d3 DR
  go_wp2_with fail
  go_ret
  exact ⟨_, rfl, VN.out, _, D1.out, rfl, D2.out, D3.out⟩
 rw [left, if_neg (by have := HTL.out; omega)] at hlv
 have X5 := hid (X4.out.later (Below.refl w4.heap.size w4).drew)
 have FN := hid (X5.out.back X5.out.seats (St.refl _ _) rfl rfl rfl rfl X5.out.n2 hlv RTK.out fun _ _ _ _ _ => rfl)
 have VN : Hid (Prts W.heap.size w4.drew v (s.at i)) := V4.out.later (Below.refl _ _).drew
 have GN : Hid (Gw c { c with seat := c.seat, tab := tput c.tab n (some (taken own j y)), tv := zhd c.tv n ⟨x.tb, ov', x.cm, x.cb⟩ } W w4.drew) := G4.out.trans ⟨St.of_below (Below.refl w4.heap.size w4).drew, fun k hk => .inl hk⟩
 have t5 : w4.drew.cell? ⟨x.tb, 1, none⟩ = some (.slice oa t oc) := t1
 have tne : ¬ ((t : Int) = 0) := by omega
 clear hlv K4 X5 t1
 go_wp2_with fail
 go_ret
 exact ⟨_, rfl, VN.out, _, FN.out, rfl, GN.out, fun _ q => q⟩
end Go.Proofs.YthadfdbkkmmgoaaGreatDoor.So
namespace Go.Proofs.YthadfdbkkmmgoaaGreatDoor
open Go.RowKit Go.Shelf
def eight : List Nat := [1, 2, 4, 6, 7, 9, 10, 17]
structure Env8 (w : World) (Ad : Nat -> Addr) : Prop where
 cell : ∀ k, k ∈ eight -> k <= 18 -> w.cell? ⟨gv k, 0, none⟩ = some (.iface 330 (.pointer (some (Ad k))))
 sen : ∀ k, k ∈ eight -> k <= 18 -> SenK w (Ad k)
 inj : ∀ i j, i ∈ eight -> j ∈ eight -> Ad i = Ad j -> i = j
theorem zdl : ∀ k ∈ eight, 1 <= k /\ k <= 18 := by decide
theorem Env8.later {w w' : World} {Ad : Nat -> Addr} (h : Env8 w Ad) (hb : Below w.heap.size w w') : Env8 w' Ad :=
 ⟨fun k h1 h2 => (hb.cell (p := ⟨gv k, 0, none⟩) (World.block_lt_of_cell? w _ (h.cell k h1 h2))).trans (h.cell k h1 h2), fun k h1 h2 => (h.sen k h1 h2).below hb (h.sen k h1 h2).lt, h.inj⟩
theorem Env8.same {w : World} {Ad : Nat -> Addr} (h : Env8 w Ad) {p k : Nat} (hp : p ∈ eight) (hk : k ∈ eight) : decide (Ad p = Ad k) = decide (p = k) := by
 by_cases e : p = k
 ·subst e; simp
 have : Ad p ≠ Ad k := fun h' => e (h.inj p k hp hk h')
 simp [e, this]
theorem Env.eight {w : World} {Ad : Nat -> Addr} (h : Env w Ad) : Env8 w Ad :=
 ⟨fun k h1 h2 => h.cell k (zdl k h1).1 h2, fun k h1 h2 => h.sen k (zdl k h1).1 h2, fun i j h1 h2 => h.inj i j (zdl i h1).1 (zdl i h1).2 (zdl j h2).1 (zdl j h2).2⟩
end Go.Proofs.YthadfdbkkmmgoaaGreatDoor
namespace Go.Proofs.YthadfdbkkmmgoaaGreatDoor.So
open Go.RowKit Go.Shelf Go.Maps
open Co (I64 zaj)
open At (bAl zaa zab)
open Rs (SD)
theorem Env8.four {w : World} {Ad : Nat -> Addr} (h : Env8 w Ad) : Ro.Env4 w Ad := by
 have R : ∀ k ∈ Ro.four, k ∈ eight /\ k <= 18 := by decide
 exact ⟨fun k hk => h.cell k (R k hk).1 (R k hk).2, fun k hk => h.sen k (R k hk).1 (R k hk).2, fun i hi j hj => h.inj i j (R i hi).1 (R j hj).1⟩
section
variable {w : World} {Ad : Nat -> Addr}
theorem e1 (h : Env8 w Ad) : w.cell? ⟨0, 0, none⟩ = some (.iface 330 (.pointer (some (Ad 1)))) := h.cell 1 (by decide) (by decide)
theorem e7 (h : Env8 w Ad) : w.cell? ⟨9, 0, none⟩ = some (.iface 330 (.pointer (some (Ad 7)))) := h.cell 7 (by decide) (by decide)
theorem e9 (h : Env8 w Ad) : w.cell? ⟨6, 0, none⟩ = some (.iface 330 (.pointer (some (Ad 9)))) := h.cell 9 (by decide) (by decide)
end
set_option maxRecDepth 100000 in
theorem zfd {ex : Option Nat} {B : Nat} {W : World} {sb : Nat} {c : CV} {s : SD} (h : Sto ex B W sb c s) {i g n j m : Nat} {own : List (Nat × Nat)} {y : Nat × Nat} (ha : al s i g) (A : At1 c s i g n j m own y) :
  Calls Tryz.prog 121 #[.pointer (some ⟨sb, 0, none⟩), .agg #[.int .i64 (i : Int), .int .i64 (g : Int)]] W fun e W' => e = .returned (.tuple #[.pointer (some ⟨(c.tv n).tb, 0, none⟩), .int .i64 (j : Int), .nilIface]) /\ Below W.heap.size W W' := by
 obtain ⟨w1, hw1⟩ : ∃ w1, w1 = W.alloc (.cells #[.int .i64 (i : Int), .int .i64 (g : Int)] 144) := ⟨_, rfl⟩
 have b1 : Below W.heap.size W w1 := by rw [hw1]; exact bAl _ _
 have r1 : w1.heap[W.heap.size]? = some (.cells #[.int .i64 (i : Int), .int .i64 (g : Int)] 144 (0, 0)) := by rw [hw1]; exact heap_alloc_new W _
 have h1 := h.later b1
 have hi64 : s.r.gens.length <= 64 := h.rol.small
 have hii := ziv ha
 have KK : Hid (∀ W', Below w1.heap.size w1 W' -> W'.cell? ⟨sb, 3, none⟩ = some (.pointer (some ⟨c.rb, 0, none⟩)) /\ W'.cell? ⟨W.heap.size, 0, none⟩ = some (.int .i64 (i : Int)) /\ W'.cell? ⟨W.heap.size, 1, none⟩ = some (.int .i64 (g : Int))) := fun W' hb =>
  ⟨(h1.later hb).c3, zaa (zab hb (Nat.le_refl _) r1) rfl, zaa (zab hb (Nat.le_refl _) r1) rfl⟩
 have hgI : I64 (g : Int) := by
  have hg := (zgv s i g).1 ha
  have ho := h.rol.old g (List.mem_of_getElem? hg.2)
  have := h.small
  exact zaj (by omega) (by omega)
 have AL : Hid (∀ W', Below w1.heap.size w1 W' -> Calls Tryz.prog 156 #[.pointer (some ⟨c.rb, 0, none⟩), .agg #[.int .i64 (i : Int), .int .i64 (g : Int)]] W' fun e W2 => e = .returned (.bool true) /\ Below w1.heap.size w1 W2) := fun W' hb =>
  (Ro.z0m (h1.later hb).rol (i : Int) (g : Int) (zaj (by omega) (by omega)) hgI).mono fun e W2 ⟨q1, q2⟩ => ⟨by rw [q1, show s.r.zbo (i : Int) (g : Int) = true from ha], hb.trans (q2.mono hb.size)⟩
 have K5 : Hid (∀ W', Below w1.heap.size w1 W' -> W'.cell? ⟨sb, 4, none⟩ = some (.slice (some ⟨c.sv, 0, none⟩) c.seat.length c.seat.length) /\ W'.cell? ⟨W.heap.size, 0, none⟩ = some (.int .i64 (i : Int)) /\ W'.cell? ⟨c.sv, i * 2, none⟩ = some (.int .i64 (n : Int)) /\ W'.cell? ⟨c.sv, i * 2 + 1, none⟩ = some (.int .i64 (j : Int))) := fun W' hb =>
  ⟨(h1.later hb).c4, (KK.out W' hb).2.1, ((h1.later hb).zmt A.seat).1, ((h1.later hb).zmt A.seat).2⟩
 have hsi : (i : Int) < (c.seat.length : Int) := by have := h.lk.len; omega
 have hn5 : n <= 65536 := by
  have := (List.getElem?_eq_some_iff.1 A.set).1
  have := h.atl.ok.small
  simp at this
  omega
 have LE : So.lk (zau c.tab c.tv) (n : Int) = some (c.tv n).tb := by rw [zjq]; unfold zau; rw [A.tab]; rfl
 obtain ⟨x, hx⟩ : ∃ x, x = c.tv n := ⟨_, rfl⟩
 rw [<- hx] at LE
 have K6 : Hid (∀ W', Below w1.heap.size w1 W' -> W'.cell? ⟨sb, 2, none⟩ = some (.map (some c.tm)) /\ (Instr.lookup 178 (.map (some c.tm)) (.int .i64 (n : Int)) false).run Tryz.prog W' = .ok (.pointer (some ⟨x.tb, 0, none⟩)) W') := fun W' hb => by
  refine ⟨(h1.later hb).c2, ?_⟩
  have := (h1.later hb).look (n : Int) (zaj (by omega) (by omega))
  rw [LE] at this
  exact this
 rw [<- hx]
 have HW1 := hid hw1
 have B1 := hid b1
 clear hw1 b1 r1 h h1 ha A LE hx hgI
 go_enter Tryz.func121, Tryz.ntmps121
 go_upto_region 1 with fail
 rw [<- HW1.out]
 go_wp2_with fail
 go_region_held3 (fun W' => W'.cell? ⟨sb, 3, none⟩ = some (.pointer (some ⟨c.rb, 0, none⟩)) /\ W'.cell? ⟨W.heap.size, 0, none⟩ = some (.int .i64 (i : Int)) /\ W'.cell? ⟨W.heap.size, 1, none⟩ = some (.int .i64 (g : Int))) (first | exact KK.out _ (Below.refl _ _).drew | exact KK.out _ (Below.refl _ _) | exact KK.out _ B2.out)
  ((go_at_call 156; refine (AL.out _ (by first | exact (Below.refl _ _).drew | exact Below.refl _ _)).mono ?_; rintro e w2 ⟨rfl, hb2⟩; have B2 := hid hb2; clear hb2))
 go_wp2_with fail
 go_region_held3 (fun W' => W'.cell? ⟨sb, 4, none⟩ = some (.slice (some ⟨c.sv, 0, none⟩) c.seat.length c.seat.length) /\ W'.cell? ⟨W.heap.size, 0, none⟩ = some (.int .i64 (i : Int)) /\ W'.cell? ⟨c.sv, i * 2, none⟩ = some (.int .i64 (n : Int)) /\ W'.cell? ⟨c.sv, i * 2 + 1, none⟩ = some (.int .i64 (j : Int)))
  (first | exact K5.out _ B2.out | exact K5.out _ B2.out.drew | exact K5.out _ (B2.out.drew.alloc (by have := B2.out.size; simp; omega) _) | exact K5.out _ ((B2.out.drew.alloc (by have := B2.out.size; simp; omega) _).setCell (by have := B2.out.size; simp; omega) _) | exact K5.out _ (((B2.out.drew.alloc (by have := B2.out.size; simp; omega) _).setCell (by have := B2.out.size; simp; omega) _).setCell (by have := B2.out.size; simp; omega) _)) (fail)
 obtain ⟨w3, hw3⟩ : ∃ w3, w3 = (w2.alloc (.cells #[.int .i64 (n : Int), .int .i64 (j : Int)] 267)).drew := ⟨_, rfl⟩
 have b3 : Below w1.heap.size w1 w3 := by rw [hw3]; exact (B2.out.alloc B2.out.size _).drew
 have r3 : w3.heap[w2.heap.size]? = some (.cells #[.int .i64 (n : Int), .int .i64 (j : Int)] 267 (0, 0)) := by rw [hw3]; exact heap_alloc_new w2 _
 rw [<- hw3]
 have B3 := hid b3
 have R3 := hid r3
 have K7 : Hid (∀ W', Below w3.heap.size w3 W' -> W'.cell? ⟨sb, 2, none⟩ = some (.map (some c.tm)) /\ W'.cell? ⟨w2.heap.size, 0, none⟩ = some (.int .i64 (n : Int)) /\ W'.cell? ⟨w2.heap.size, 1, none⟩ = some (.int .i64 (j : Int)) /\ (Instr.lookup 178 (.map (some c.tm)) (.int .i64 (n : Int)) false).run Tryz.prog W' = .ok (.pointer (some ⟨x.tb, 0, none⟩)) W') := fun W' hb => by
  have q := K6.out W' (B3.out.trans (hb.mono B3.out.size))
  exact ⟨q.1, zaa (zab hb (Nat.le_refl _) R3.out) rfl, zaa (zab hb (Nat.le_refl _) R3.out) rfl, q.2⟩
 clear hw3 b3 r3 K5 KK AL
 go_wp2_with fail
 go_region_held3 (fun W' => W'.cell? ⟨sb, 2, none⟩ = some (.map (some c.tm)) /\ W'.cell? ⟨w2.heap.size, 0, none⟩ = some (.int .i64 (n : Int)) /\ W'.cell? ⟨w2.heap.size, 1, none⟩ = some (.int .i64 (j : Int)) /\ (Instr.lookup 178 (.map (some c.tm)) (.int .i64 (n : Int)) false).run Tryz.prog W' = .ok (.pointer (some ⟨x.tb, 0, none⟩)) W') (first | exact K7.out _ (Below.refl _ _).drew | exact K7.out _ (Below.refl _ _)) (fail)
 go_wp2_with fail
 refine bodyPost_ret (v := .tuple #[.pointer (some ⟨x.tb, 0, none⟩), .int .i64 (j : Int), .nilIface]) (by simp [results, Tryz.results121, go_sem]) rfl ⟨rfl, ?_⟩
 exact (B1.out.trans (B3.out.mono B1.out.size)).drew
end Go.Proofs.YthadfdbkkmmgoaaGreatDoor.So
