/- A part of StoreExact. -/
import Derived.Test.YtnlcbheidiigaaaGreatDoorMac
namespace Go.Proofs.YtnlcbheidiigaaaGreatDoor
namespace Co
open Go.RowKit Go.Shelf Go.Maps
def three : List Nat := [1, 2, 7]
structure Env3 (w : World) (Ad : Nat → Addr) : Prop where
 cell : ∀ k ∈ three, w.cell? ⟨gv k, 0, none⟩ = some (.iface 278 (.pointer (some (Ad k))))
 sen : ∀ k ∈ three, SenK w (Ad k)
 inj : ∀ i ∈ three, ∀ j ∈ three, Ad i = Ad j → i = j
theorem Env3.later {w w' : World} {Ad : Nat → Addr} (h : Env3 w Ad) (hb : Below w.heap.size w w') : Env3 w' Ad :=
 ⟨fun k hk => seen hb (Nat.le_refl _) (h.cell k hk), fun k hk => (h.sen k hk).below hb (h.sen k hk).lt, h.inj⟩
theorem Env3.c1 {w : World} {Ad : Nat → Addr} (h : Env3 w Ad) : w.cell? ⟨0, 0, none⟩ = some (.iface 278 (.pointer (some (Ad 1)))) := h.cell 1 (by decide)
def Err (Ad : Nat → Addr) (W : World) (v : Value) (k d : Nat) : Prop := ∃ ws, Chn Ad W.heap.size W d v (ws, k)
theorem err_leaf (Ad : Nat → Addr) (W : World) (k : Nat) (hk : 1 ≤ k ∧ k ≤ 18) : Err Ad W (.iface 278 (.pointer (some (Ad k)))) k 0 := ⟨[], rfl, hk.1, hk.2, Nat.le_refl _⟩
theorem at_err (Ad : Nat → Addr) (s : ByteArray) (v : Value) (k d : Nat) (w : World) (h : Err Ad w v k d) :
  Calls Tryz.prog 63 #[.string s, v] w fun e w' => ∃ t q, e = .returned (.iface t q) ∧ Err Ad w' (.iface t q) k (d + 1) ∧ Below w.heap.size w w' := by
 obtain ⟨ws, h⟩ := h
 refine (at_chain Ad s d v (ws, k) w h).mono ?_
 rintro e w' ⟨v', rfl, hc, hb⟩
 obtain ⟨t, q, rfl, _⟩ := hc.1.shape
 exact ⟨t, q, rfl, ⟨_, hc⟩, hb⟩
set_option maxHeartbeats 800000 in
set_option maxRecDepth 100000 in
theorem new_some (W : World) (c : Int) (w : Nat) (h0 : 0 ≤ c) (h1 : c ≤ 15) (hw0 : 1 ≤ w) (hw : w ≤ 4) :
  Calls Tryz.prog 138 #[.int .i64 c, .int .i64 (w : Int)] W fun e W' => e = .returned (.tuple #[.pointer (some ⟨W.heap.size + 1, 0, none⟩), .nilIface]) ∧ Cl W.heap.size W' (W.heap.size + 1) W.heap.size (.slice none 0 0) ⟨c, w, []⟩ ∧ Below W.heap.size W W' := by
 have h2 : ¬ (c < 0) := by omega
 have h3 : ¬ (16 ≤ c) := by omega
 have h4 : ¬ ((w : Int) < 1) := by omega
 have h5 : ¬ (4 < (w : Int)) := by omega
 have hmm := run_makeMap (P := Tryz.prog) 222
 have K : Hid (Cl W.heap.size ((W.alloc (.map #[] 0)).alloc (.cells #[.int .i64 c, .int .i64 (w : Int), .slice none 0 0, .map (some W.heap.size)] 224)) (W.heap.size + 1) W.heap.size (.slice none 0 0) ⟨c, w, []⟩ ∧ Below W.heap.size W ((W.alloc (.map #[] 0)).alloc (.cells #[.int .i64 c, .int .i64 (w : Int), .slice none 0 0, .map (some W.heap.size)] 224))) := by
  refine ⟨⟨?_, ?_, ?_, ⟨hw0, hw, by simp⟩, by simp, by omega⟩, (bAl W _).alloc (by simp) _⟩
  ·have := heap_alloc_new (W.alloc (.map #[] 0)) (.cells #[.int .i64 c, .int .i64 (w : Int), .slice none 0 0, .map (some W.heap.size)] 224)
   simpa using this
  ·have := World.ownsRow_nil ((W.alloc (.map #[] 0)).alloc (.cells #[.int .i64 c, .int .i64 (w : Int), .slice none 0 0, .map (some W.heap.size)] 224)) W.heap.size 3 1
   simpa [flat] using this
  ·have := World.ownsMap_made W Tryz.prog 3 (plainElem (H := Unit) Tryz.prog 3)
   refine ⟨_, this.alloc _, fun i _ => ?_, rfl⟩
   have e : rowAt [] i = none := by unfold rowAt; split <;> simp
   unfold tickAt
   rw [e]
   exact ⟨rfl, rfl⟩
 go_enter Tryz.func138, Tryz.ntmps138
 go_wp2_with fail
 go_ret2
 exact ⟨rfl, K.out.1, K.out.2⟩
set_option maxHeartbeats 400000 in
theorem nz_any (x : Int) (W : World) : Calls Tryz.prog 142 #[.int .i64 x] W fun e W' => e = .returned (.bool (!(x == 0))) ∧ W' = W := by
 go_enter Tryz.func142, Tryz.ntmps142
 go_wp2
 go_ret
 exact ⟨rfl, rfl⟩
def nzB (x : Int) : Bool := !(x == 0)
def Nums (W : World) (b o : Nat) (xs : List Int) : Prop := ∀ (j : Nat) x, xs[j]? = some x → W.cell? ⟨b, o + j, none⟩ = some (.int .i64 x)
theorem any_next {xs : List Int} {k : Nat} {x : Int} (h : xs[k]? = some x) : (xs.take (k + 1)).any nzB = ((xs.take k).any nzB || nzB x) := by
 rw [take_next h, List.any_append]; simp
theorem any_hit {xs : List Int} {k : Nat} {x : Int} (h : xs[k]? = some x) (hx : nzB x = true) : xs.any nzB = true := List.any_eq_true.2 ⟨x, List.mem_of_getElem? h, hx⟩
set_option maxHeartbeats 800000 in
set_option maxRecDepth 100000 in
theorem index_any (W : World) (b o c : Nat) (xs : List Int) (hn : xs.length ≤ 4) (hm : Nums W b o xs) :
  Calls Tryz.prog 147 #[.slice (some ⟨b, o, none⟩) xs.length c, .func (.func 142) #[] #[]] W fun e W' => ∃ r : Int, e = .returned (.int .i64 r) ∧ decide (0 ≤ r) = xs.any nzB ∧ W' = W := by
 have HM := hid hm
 clear hm
 have NZ := hid nz_any
 have hni : (xs.length : Int) ≤ 4 := by omega
 go_enter Tryz.func147, Tryz.ntmps147
 go_wp2_with fail
 go_loop [5, 8] (fun _ i => ∃ k : Nat, k ≤ xs.length ∧ i = .int .i64 (k : Int) ∧ Hid ((xs.take k).any nzB = false)) (fun _ i => xs.length - (intOf i).toNat)
 case atStart => exact ⟨0, Nat.zero_le _, rfl, rfl⟩
 case round =>
  obtain ⟨k, hk, rfl, HA⟩ := hrel
  by_cases hlt : k < xs.length
  ·have hki : (k : Int) < (xs.length : Int) := by omega
   obtain ⟨x, hx⟩ := at_lt xs k hlt
   have c0 := HM.out k x hx
   have AN := hid (any_next hx)
   have AH := hid (any_hit hx)
   clear hx
   by_cases h0 : x = 0
   ·have e0 : (x == 0) = true := by simp [h0]
    have E : Hid ((xs.take (k + 1)).any nzB = false) := by show _ = _; rw [AN.out, HA.out]; simp [nzB, e0]
    clear h0 AH
    go_wp2_with fail
    refine (NZ.out _ _).mono ?_
    rintro e w1 ⟨rfl, rfl⟩
    go_wp2_with fail
    go_round
    case rel => exact ⟨k + 1, by omega, by go_num, E.out⟩
    case measure => simp [intOf]; omega
   ·have e0 : (x == 0) = false := by simp [h0]
    have E : Hid (xs.any nzB = true) := AH.out (by simp [nzB, e0])
    clear h0 AH
    go_wp2_with fail
    refine (NZ.out _ _).mono ?_
    rintro e w1 ⟨rfl, rfl⟩
    go_wp2_with fail
    go_ret
    exact ⟨_, rfl, by rw [E.out]; simp, rfl⟩
  ·have hki : ¬ ((k : Int) < (xs.length : Int)) := by omega
   have E : Hid (xs.any nzB = false) := by
    have := HA.out
    rw [List.take_of_length_le (by omega)] at this
    exact this
   go_wp2_with fail
   go_ret
   exact ⟨_, rfl, by rw [E.out]; simp, rfl⟩
set_option maxHeartbeats 800000 in
theorem contains_any (W : World) (b o c : Nat) (xs : List Int) (hn : xs.length ≤ 4) (hm : Nums W b o xs) :
  Calls Tryz.prog 130 #[.slice (some ⟨b, o, none⟩) xs.length c, .func (.func 142) #[] #[]] W fun e W' => e = .returned (.bool (xs.any nzB)) ∧ W' = W := by
 have IX := hid (index_any W b o c xs hn hm)
 clear hm
 go_enter Tryz.func130, Tryz.ntmps130
 go_wp2_with fail
 refine IX.out.mono ?_
 rintro e w1 ⟨r, rfl, hr, rfl⟩
 have HR := hid hr
 clear hr IX
 go_wp2_with fail
 go_ret
 exact ⟨by rw [← HR.out]; rfl, rfl⟩
theorem fit_any (w : Nat) (p : Pt) : (p.cs.drop w).any nzB = !(p.fitB w) := by
 unfold Pt.fitB
 generalize p.cs.drop w = l
 induction l with
 | nil => rfl
 | cons x l ih => rw [List.any_cons, List.all_cons, ih, Bool.not_and]; rfl
theorem nums_behind {W : World} {b : Nat} {cm : Int} {p : Pt} (h : W.heap[b]? = some (.cells (p.arr cm) 47 (0, 0))) (w : Nat) : Nums W b (1 + w) (p.cs.drop w) := by
 intro j x hx
 refine cell_blk h ?_
 rw [List.getElem?_drop] at hx
 generalize hq : w + j = q at hx
 rw [show 1 + w + j = q + 1 by omega]
 match q, hx with
 | 0, hx => simp [Pt.cs] at hx; subst hx; rfl
 | 1, hx => simp [Pt.cs] at hx; subst hx; rfl
 | 2, hx => simp [Pt.cs] at hx; subst hx; rfl
 | 3, hx => simp [Pt.cs] at hx; subst hx; rfl
 | q + 4, hx => simp [Pt.cs] at hx
theorem drewN_below (W : World) (m : Nat) : Below W.heap.size W (W.drewN m) := by
 induction m generalizing W with
 | zero => exact Below.refl _ _
 | succ m ih => exact (ih W).drew
theorem fit4 (p : Pt) : p.fitB 4 = true := rfl
set_option maxHeartbeats 1600000 in
set_option maxRecDepth 100000 in
theorem check_ok {B : Nat} {W : World} {rb mb : Nat} {sv : Value} {s : CS} (h : Cl B W rb mb sv s) (p : Pt) (hf : p.fitB s.w = true) :
  Calls Tryz.prog 119 #[.pointer (some ⟨rb, 0, none⟩), p.val s.comp] W fun e W' => e = .returned .nilIface ∧ Below W.heap.size W W' := by
 obtain ⟨W1, hW1⟩ : ∃ W1, W1 = W.alloc (.cells (p.arr s.comp) 47) := ⟨_, rfl⟩
 have BA : Hid (Below W.heap.size W W1) := by rw [hW1]; exact bAl _ _
 have q0 := (h.later BA.out).c0
 have q1 := (h.later BA.out).c1
 have hh : W1.heap[W.heap.size]? = some (.cells (p.arr s.comp) 47 (0, 0)) := by rw [hW1]; exact heap_alloc_new W (.cells (p.arr s.comp) 47)
 have d0 : W1.cell? ⟨W.heap.size, 0, none⟩ = some (.int .i64 s.comp) := cell_blk hh rfl
 have hw := h.ok.w4
 have HW1 := hid hW1
 by_cases h4 : s.w = 4
 ·have CO := hid (fun m => contains_any (W1.drewN m) W.heap.size 1 0 [] (by simp) (by intro j x hx; simp at hx))
  have CO : Hid (∀ m, Calls Tryz.prog 130 #[.slice (some ⟨W.heap.size, 1, none⟩) 0 0, .func (.func 142) #[] #[]] (W1.drewN m) fun e W' => e = .returned (.bool false) ∧ W' = W1.drewN m) := CO.out
  rw [h4] at q1
  generalize s.comp = cm at *
  clear h hf hW1 hh hw h4
  unfold Pt.val
  unfold Pt.arr at HW1
  go_enter Tryz.func119, Tryz.ntmps119
  go_wp2_with fail
  rw [← HW1.out]
  go_quiet (fail)
  go_wp2_with fail
  refine (CO.out _).mono ?_
  rintro e w2 ⟨rfl, rfl⟩
  go_wp2_with fail
  go_ret
  exact ⟨rfl, BA.out.trans ((drewN_below W1 nq).mono BA.out.size)⟩
 ·have hn4 : ¬ (4 = s.w) := by omega
  have hw4 : (s.w : Int) ≤ 4 := by omega
  have hz4 : ¬ (s.w = 4) := by omega
  have CO := hid (fun m => contains_any (W1.drewN m) W.heap.size (1 + s.w) (4 - s.w) (p.cs.drop s.w) (by simp [Pt.cs]) (by
   intro j x hx
   exact seen (drewN_below W1 m) (Nat.le_refl _) (nums_behind hh s.w j x hx)))
  rw [fit_any, hf, show (p.cs.drop s.w).length = 4 - s.w by simp [Pt.cs]] at CO
  generalize s.comp = cm at *
  generalize s.w = sw at *
  clear h hf hW1 hh
  unfold Pt.val
  unfold Pt.arr at HW1
  go_enter Tryz.func119, Tryz.ntmps119
  go_wp2_with fail
  rw [← HW1.out]
  go_quiet (fail)
  go_wp2_with fail
  refine (CO.out _).mono ?_
  rintro e w2 ⟨rfl, rfl⟩
  go_wp2_with fail
  go_ret
  exact ⟨rfl, BA.out.trans ((drewN_below W1 nq).mono BA.out.size)⟩
def put6 (W : World) (b : Nat) (cm : Int) (p : Pt) : World := (((((W.setCell ⟨b, 0, none⟩ (.int .i64 cm)).setCell ⟨b, 1, none⟩ (.int .i64 p.a)).setCell ⟨b, 2, none⟩ (.int .i64 p.b)).setCell ⟨b, 3, none⟩ (.int .i64 p.c)).setCell ⟨b, 4, none⟩ (.int .i64 p.d)).setCell ⟨b, 5, none⟩ (.int .i64 p.t)
theorem put6_blk {W : World} {b : Nat} {cs : Array Value} {e : TypeId} (h : W.heap[b]? = some (.cells cs e (0, 0))) (hs : cs.size = 6) (cm : Int) (p : Pt) : (put6 W b cm p).heap[b]? = some (.cells (p.arr cm) e (0, 0)) := by
 have h1 := heap_setCell_same W b 0 cs e (.int .i64 cm) h
 have h2 := heap_setCell_same _ b 1 _ e (.int .i64 p.a) h1
 have h3 := heap_setCell_same _ b 2 _ e (.int .i64 p.b) h2
 have h4 := heap_setCell_same _ b 3 _ e (.int .i64 p.c) h3
 have h5 := heap_setCell_same _ b 4 _ e (.int .i64 p.d) h4
 have h6 := heap_setCell_same _ b 5 _ e (.int .i64 p.t) h5
 unfold put6
 rw [h6]
 clear h h1 h2 h3 h4 h5 h6
 have e : ((((((cs.setIfInBounds 0 (.int .i64 cm)).setIfInBounds 1 (.int .i64 p.a)).setIfInBounds 2 (.int .i64 p.b)).setIfInBounds 3 (.int .i64 p.c)).setIfInBounds 4 (.int .i64 p.d)).setIfInBounds 5 (.int .i64 p.t)) = p.arr cm := by
  apply Array.toList_inj.1
  obtain ⟨l⟩ := cs
  match l, hs with
  | [x0, x1, x2, x3, x4, x5], _ => simp [Pt.arr]
 rw [e]
theorem put6_st (W : World) (b : Nat) (cm : Int) (p : Pt) : St (fun k => k = b) W (put6 W b cm p) := by
 unfold put6
 have q : ∀ x, x < W.heap.size → (fun k => k = b) x → (fun k => k = b) x := fun _ _ h => h
 exact (((((St.setCell (S := fun k => k = b) (p := ⟨b, 0, none⟩) _ rfl).trans (St.setCell (S := fun k => k = b) (p := ⟨b, 1, none⟩) _ rfl) fun _ _ h => h).trans (St.setCell (S := fun k => k = b) (p := ⟨b, 2, none⟩) _ rfl) fun _ _ h => h).trans (St.setCell (S := fun k => k = b) (p := ⟨b, 3, none⟩) _ rfl) fun _ _ h => h).trans (St.setCell (S := fun k => k = b) (p := ⟨b, 4, none⟩) _ rfl) fun _ _ h => h).trans (St.setCell (S := fun k => k = b) (p := ⟨b, 5, none⟩) _ rfl) fun _ _ h => h
def Pt.zero : Pt := ⟨0, 0, 0, 0, 0⟩
theorem set_same {W : World} {b j : Nat} {cs : Array Value} {e : TypeId} {u : Value} (h : W.heap[b]? = some (.cells cs e (0, 0))) (hj : cs[j]? = some u) : W.setCell ⟨b, j, none⟩ u = W := by
 have e : (W.setCell ⟨b, j, none⟩ u).heap = W.heap := by
  apply Array.ext_getElem?
  intro k
  by_cases hk : k = b
  ·subst hk
   rw [heap_setCell_same W k j cs e u h, h]
   have : cs.setIfInBounds j u = cs := by
    apply Array.ext_getElem?
    intro m
    rw [Array.getElem?_setIfInBounds]
    split
    ·rename_i hm
     subst hm
     have := (Array.getElem?_eq_some_iff.1 hj).1
     rw [if_pos this, hj]
    ·rfl
   rw [this]
  ·exact Below.heap_setCell _ _ _ _ hk
 unfold World.setCell at e ⊢
 cases W
 simp at e ⊢
 exact e
theorem put6_same {W : World} {b : Nat} {e : TypeId} {cm : Int} {p : Pt} (h : W.heap[b]? = some (.cells (p.arr cm) e (0, 0))) : put6 W b cm p = W := by
 unfold put6
 rw [set_same h rfl, set_same h rfl, set_same h rfl, set_same h rfl, set_same h rfl, set_same h rfl]
structure Lies (W : World) (b : Nat) (cm : Int) (p : Pt) : Prop where
 c0 : W.cell? ⟨b, 0, none⟩ = some (.int .i64 cm)
 c1 : W.cell? ⟨b, 1, none⟩ = some (.int .i64 p.a)
 c2 : W.cell? ⟨b, 2, none⟩ = some (.int .i64 p.b)
 c3 : W.cell? ⟨b, 3, none⟩ = some (.int .i64 p.c)
 c4 : W.cell? ⟨b, 4, none⟩ = some (.int .i64 p.d)
 c5 : W.cell? ⟨b, 5, none⟩ = some (.int .i64 p.t)
 f0 : W.frozen? ⟨b, 0, none⟩ = false
 f1 : W.frozen? ⟨b, 1, none⟩ = false
 f2 : W.frozen? ⟨b, 2, none⟩ = false
 f3 : W.frozen? ⟨b, 3, none⟩ = false
 f4 : W.frozen? ⟨b, 4, none⟩ = false
 f5 : W.frozen? ⟨b, 5, none⟩ = false
theorem lies {W : World} {b : Nat} {cm : Int} {p : Pt} {e : TypeId} (h : W.heap[b]? = some (.cells (p.arr cm) e (0, 0))) : Lies W b cm p :=
 ⟨cell_blk h rfl, cell_blk h rfl, cell_blk h rfl, cell_blk h rfl, cell_blk h rfl, cell_blk h rfl, blk_free h 0, blk_free h 1, blk_free h 2, blk_free h 3, blk_free h 4, blk_free h 5⟩
theorem infoInt : (Tryz.prog.info? 3).map (·.size) = some 1 := by kernel_rfl
theorem add_at2 (g o j : Nat) : (⟨g, o, none⟩ : Addr).add j = ⟨g, o + j, none⟩ := by unfold Addr.add; split <;> simp_all
theorem row_cells {W : World} {g L : Nat} {cur : Array Value} {w : Nat} {l : List Pt} {n : Nat} {p : Pt} (hg : W.heap[g]? = some (.cells cur 3 (0, 0))) (hL : cur.toList.take L = flat w l) (hw : w ≤ 4) (hn : l[n]? = some p) :
  ∀ (j : Nat) (v : Value), (p.row w)[j]? = some v → W.cell? ((⟨g, n * w, none⟩ : Addr).add j) = some v := by
 intro j v hv
 have hj : j < w := by have := (List.getElem?_eq_some_iff.1 hv).1; rw [p.row_len hw] at this; exact this
 rw [add_at2]
 refine cell_blk hg ?_
 have h1 := flat_at hw hn hj
 rw [← hL, hv, List.getElem?_take] at h1
 split at h1
 ·simpa using h1
 ·cases h1
set_option maxHeartbeats 1600000 in
set_option maxRecDepth 100000 in
theorem row_some {B : Nat} {W : World} {rb mb : Nat} {sv : Value} {s : CS} (h : Cl B W rb mb sv s) (n : Nat) (p : Pt) (hp : s.rows[n]? = some p) :
  Calls Tryz.prog 94 #[.pointer (some ⟨rb, 0, none⟩), .int .i64 (n : Int)] W fun e W' => e = .returned (.tuple #[p.val s.comp, .nilIface]) ∧ Below W.heap.size W W' := by
 have hnl : n < s.rows.length := (List.getElem?_eq_some_iff.1 hp).1
 have hsm := h.small
 obtain ⟨g, cap, cur, hsv, hBg, hg, hLc, hcm, hcs, hfl⟩ := h.cells (by omega)
 subst hsv
 have hfit := (h.ok.fit p (List.mem_of_getElem? hp)).1
 have hw0 := h.ok.w0
 have hw4 := h.ok.w4
 have hnw : n * s.w + s.w ≤ s.rows.length * s.w := by rw [← Nat.succ_mul]; exact Nat.mul_le_mul_right _ hnl
 have hL4 : s.rows.length * s.w ≤ 4000 := by have := Nat.mul_le_mul hsm hw4; omega
 have c0 := h.c0
 have c1 := h.c1
 have c2 := h.c2
 have c3 := h.c3
 have hrl := World.block_lt_of_cell? W _ c3
 have hrn := World.new_ne W _ c3
 have hrn2 : ¬ (rb = W.heap.size + 1) := by have : rb < W.heap.size := hrl; omega
 obtain ⟨D, hD, hH⟩ := (h.later (bAl W (.cells #[.int .i64 0, .int .i64 0, .int .i64 0, .int .i64 0, .int .i64 0, .int .i64 0] 47))).map
 have LK := look_two hD hH (n : Int) (I64_mid (by omega) (by omega))
 unfold tickAt at LK
 rw [rowAt_nat, hp] at LK
 simp only [Option.isSome_some] at LK
 obtain ⟨W3, hW3⟩ : ∃ W3, W3 = (W.alloc (.cells #[.int .i64 0, .int .i64 0, .int .i64 0, .int .i64 0, .int .i64 0, .int .i64 0] 47)).alloc (.cells #[.int .i64 s.comp, .int .i64 0, .int .i64 0, .int .i64 0, .int .i64 0, .int .i64 p.t] 47) := ⟨_, rfl⟩
 have b3 : Below W.heap.size W W3 := by rw [hW3]; exact (bAl W _).alloc (by simp) _
 have r3 : W3.heap[W.heap.size]? = some (.cells (Pt.zero.arr 0) 47 (0, 0)) := by
  rw [hW3, Below.heap_alloc _ _ _ (by simp)]; exact heap_alloc_new W _
 have p3 : W3.heap[W.heap.size + 1]? = some (.cells ((⟨0, 0, 0, 0, p.t⟩ : Pt).arr s.comp) 47 (0, 0)) := by
  have := heap_alloc_new (W.alloc (.cells #[.int .i64 0, .int .i64 0, .int .i64 0, .int .i64 0, .int .i64 0, .int .i64 0] 47)) (.cells #[.int .i64 s.comp, .int .i64 0, .int .i64 0, .int .i64 0, .int .i64 0, .int .i64 p.t] 47)
  rw [World.size_alloc] at this
  rw [hW3]; exact this
 have g3 := blk_seen b3 (Nat.le_refl _) hg
 have k1 := seen b3 (Nat.le_refl _) c1
 have k2 := seen b3 (Nat.le_refl _) c2
 -- the copy
 have src : ∀ m (j : Nat) (v : Value), (p.row s.w)[j]? = some v → (W3.drewN m).cell? ((⟨g, n * s.w, none⟩ : Addr).add j) = some v := fun m => row_cells (W := W3.drewN m) g3 hfl hw4 hp
 have CP : ∀ m ty, (Builtin.copy_ #[113, 113] ty #[.slice (some ⟨W.heap.size + 1, 1, none⟩) 4 4, .slice (some ⟨g, n * s.w, none⟩) s.w (cap - n * s.w)]).run Tryz.prog (W3.drewN m) = .ok (.int .i64 (s.w : Int)) ((W3.drewN m).setRow (W.heap.size + 1) (p.arr s.comp)) := by
  intro m ty
  have hh := run_copy_row (P := Tryz.prog) (W3.drewN m) 113 113 ty 3 (W.heap.size + 1) 1 4 4 ⟨g, n * s.w, none⟩ s.w (cap - n * s.w) ((⟨0, 0, 0, 0, p.t⟩ : Pt).arr s.comp) 47 (p.row s.w) Tryz.underlying113 infoInt p3 (by rw [p.row_len hw4]; exact (Nat.min_eq_left hw4).symm) (src m) (by rw [p.row_len hw4]; show 1 + s.w ≤ 6; omega) (row_one _ _)
  have e := p.filled hw0 hw4 hfit s.comp
  unfold Pt.arr at hh
  rw [e] at hh
  rw [hh, p.row_len hw4]
  rfl
 have CR := hid (fun m => crow_any (W := W3.drewN m) (seen (drewN_below W3 m) (Nat.le_refl _) k1) (seen (drewN_below W3 m) (Nat.le_refl _) k2) rfl hnw hLc hL4 hw0 hw4 (by omega))
 -- what is there behind it
 have FIN : Hid (∀ m W4, W4 = (W3.drewN m).setRow (W.heap.size + 1) (p.arr s.comp) → W4.heap[W.heap.size]? = some (.cells (Pt.zero.arr 0) 47 (0, 0)) ∧ W4.heap[W.heap.size + 1]? = some (.cells (p.arr s.comp) 47 (0, 0)) ∧ Below W.heap.size W W4) := by
  intro m W4 e
  subst e
  refine ⟨?_, ?_, ?_⟩
  ·rw [setRow_other _ _ _ _ (by omega)]; exact r3
  ·exact setRow_heap (W3.drewN m) (W.heap.size + 1) _ _ 47 _ p3
  ·exact (b3.trans ((drewN_below W3 m).mono b3.size)).trans ⟨rfl, rfl, rfl, by simp [World.setRow], fun k hk => setRow_other _ _ _ _ (by omega)⟩
 have HW3 := hid hW3
 clear hD hH h hp hW3 p3 r3 b3 g3 k1 k2 src hg hfl hfit c1 c2 hBg
 generalize n * s.w = o at *
 generalize s.comp = cm at *
 generalize s.w = sw at *
 go_enter Tryz.func94, Tryz.ntmps94
 go_wp2_with fail
 rw [← HW3.out]
 go_region_held3 (fun _ => True) (exact trivial)
  ((go_at_call 120; refine (CR.out 1).mono ?_; rintro e w8 ⟨rfl, m, rfl⟩; rw [World.drewN_drewN]))
 obtain ⟨W4, hW4⟩ : ∃ W4, W4 = (W3.drewN (1 + m)).setRow (W.heap.size + 1) (p.arr cm) := ⟨_, rfl⟩
 rw [← hW4]
 obtain ⟨r4, p4, b4⟩ := FIN.out _ _ hW4
 have R4 := hid r4
 have B4 := hid b4
 obtain ⟨d0, d1, d2, d3, d4, d5, -, -, -, -, -, -⟩ := lies p4
 obtain ⟨x0, x1, x2, x3, x4, x5, f0, f1, f2, f3, f4, f5⟩ := lies r4
 clear LK CP CR FIN HW3 hW4 r4 p4 b4 c3 hrl hrn hrn2
 go_wp2_with fail
 have PB := put6_blk R4.out rfl cm p
 have PS := put6_st W4 W.heap.size cm p
 unfold put6 at PB PS
 obtain ⟨d0, d1, d2, d3, d4, d5, -, -, -, -, -, -⟩ := lies PB
 have BF := B4.out.trans (PS.below (B := W.heap.size) (fun k hk => by omega) B4.out.size)
 generalize (((((W4.setCell ⟨W.heap.size, 0, none⟩ (.int .i64 cm)).setCell ⟨W.heap.size, 1, none⟩ (.int .i64 p.a)).setCell ⟨W.heap.size, 2, none⟩ (.int .i64 p.b)).setCell ⟨W.heap.size, 3, none⟩ (.int .i64 p.c)).setCell ⟨W.heap.size, 4, none⟩ (.int .i64 p.d)).setCell ⟨W.heap.size, 5, none⟩ (.int .i64 p.t) = W5 at *
 exact bodyPost_ret (v := .tuple #[.agg #[.int .i64 cm, .int .i64 p.a, .int .i64 p.b, .int .i64 p.c, .int .i64 p.d, .int .i64 p.t], .nilIface]) (by simp [results, Tryz.results94, go_sem, d0, d1, d2, d3, d4, d5]) rfl ⟨rfl, BF⟩
theorem row_src {W : World} {b : Nat} {cm : Int} {p : Pt} {e : TypeId} (h : W.heap[b]? = some (.cells (p.arr cm) e (0, 0))) (w : Nat) : ∀ (j : Nat) (u : Value), (p.row w)[j]? = some u → W.cell? ((⟨b, 1, none⟩ : Addr).add j) = some u := by
 intro j u hu
 rw [add_at2]
 refine cell_blk h ?_
 unfold Pt.row at hu
 rw [List.getElem?_map, List.getElem?_take] at hu
 split at hu
 ·rw [show 1 + j = j + 1 by omega]
  match j, hu with
  | 0, hu => simpa [Pt.cs, Pt.arr, vI] using hu
  | 1, hu => simpa [Pt.cs, Pt.arr, vI] using hu
  | 2, hu => simpa [Pt.cs, Pt.arr, vI] using hu
  | 3, hu => simpa [Pt.cs, Pt.arr, vI] using hu
  | j + 4, hu => simp [Pt.cs] at hu
 ·simp at hu
theorem infoInt3 : (Tryz.prog.info? 3).map (fun i => (i.zero, i.size, i.bytes)) = some (some (.int .i64 0), 1, 8) := by kernel_rfl
structure Grew (B : Nat) (sv : Value) (n : Nat) (l : List Value) (wc : World) (sv' : Value) (w2 : World) : Prop where
 own : w2.ownsRow B 3 1 sv' n l
 st : St (fun x => sv.ownBlock = some x) wc w2
 at' : sv'.ownBlock = sv.ownBlock ∨ ∃ x, sv'.ownBlock = some x ∧ wc.heap.size ≤ x
theorem step_cells {ops : Array Oper} {o : Oper} {a : Act} {K : Act → World → Prop} {Q : Exit → Act → World → Prop} {E : Prop} (hgd : o.guard = none) (s x : Operand)
  (ho : o.op = .call { callee := .builtin .append, args := #[s, x], argTypes := #[113, 113] }) {B b : Nat} {wc : World} {sv : Value} {n m c : Nat} {l news : List Value} (hown : wc.ownsRow B 3 1 sv n l) (hB : B ≤ wc.heap.size)
  (hl : news.length = m) (hm : 0 < m) (hsm : n + m ≤ 5000) (hsrc : ∀ (j : Nat) u, news[j]? = some u → wc.cell? ((⟨b, 1, none⟩ : Addr).add j) = some u) (hone : ∀ u ∈ news, u.oneCell' = true)
  {rb : Nat} {cs : Array Value} (hbox : wc.heap[rb]? = some (.cells cs 224 (0, 0))) (hcs : cs[2]? = some sv) (hne : sv.ownBlock ≠ some rb)
  (hs : a.eval s = sv) (hx : a.eval x = .slice (some ⟨b, 1, none⟩) m c)
  (h : ∀ g' cap w2, Hid (Grew B sv (n + m) (l ++ news) wc (.slice (some ⟨g', 0, none⟩) (n + m) cap) w2) → w2.cell? ⟨rb, 2, none⟩ = some sv → w2.frozen? ⟨rb, 2, none⟩ = false → K (a.put o.dst (.slice (some ⟨g', 0, none⟩) (n + m) cap)) w2) :
  if Region.wanted o (yielded ops a.tmps) = true then Oper.wp Tryz.prog o a wc.drew K Q else E := by
 obtain ⟨i0, hi, hz0, hz1, hz2⟩ := info_parts infoInt3
 refine step_append_lies _ hgd s x 113 ho B 3 i0 (.int .i64 0) 1 8 Tryz.underlying113 hi hz0 hz1 hz2 rfl (by decide) sv n l hs (show wc.drew.ownsRow _ _ _ _ _ _ from hown) ⟨b, 1, none⟩ m c news hx (by omega) hsrc hone hm (by unfold maxLen; omega) (by omega) hB wc.heap.size rfl ?_
 intro g' cap w2 ow hg hat hlt
 have st' := St.of_grown (S := fun x => sv.ownBlock = some x) hg fun k e => e
 have st : St (fun x => sv.ownBlock = some x) wc w2 := ⟨st'.os, st'.tape, st'.output, st'.size, st'.block⟩
 have hbx := st.at hbox hne
 refine h g' cap w2 ⟨ow, st, ?_⟩ (cell_blk hbx hcs) (blk_free hbx 2)
 ·rcases hat with h1 | h1
  ·exact .inl (by rw [h1]; rfl)
  ·exact .inr ⟨g', rfl, by omega⟩
theorem Cl.pushed {B : Nat} {w1 w2 w4 : World} {rb mb : Nat} {sv sv' : Value} {s : CS} (h : Cl B w1 rb mb sv s) (p : Pt) (hf : p.fitB s.w = true) (ht : I64 p.t) (hsm : s.rows.length < 1000)
  (hg : Grew B sv (s.rows.length * s.w + s.w) (flat s.w s.rows ++ p.row s.w) w1 sv' w2) (hs : St (fun x => x = mb) (w2.setCell ⟨rb, 2, none⟩ sv') w4)
  (D : DataW Unit) (hD : w1.ownsMap Tryz.prog 3 (plainElem Tryz.prog 3) mb s.rows.length D) (hH : Holds D s.rows) (hD4 : w4.ownsMap Tryz.prog 3 (plainElem Tryz.prog 3) mb (s.rows.length + 1) (D.put (.int .i64 (s.rows.length : Int)) (.lit (.int .i64 p.t)))) :
  Cl B w4 rb mb sv' ⟨s.comp, s.w, s.rows ++ [p]⟩ ∧ St (Ft rb mb sv) w1 w4 := by
 have l1 := (h.lt rb (.inl rfl)).2
 have lm := (h.lt mb (.inr (.inl rfl))).2
 have hnb : ∀ x, sv'.ownBlock = some x → x ≠ rb ∧ x ≠ mb := fun x hx => by
  rcases hg.at' with h1 | ⟨y, h1, h2⟩
  ·exact h.ne_f x (h1 ▸ hx)
  ·rw [h1] at hx; simp at hx; omega
 have b2 := hg.st.at h.box (fun e => (h.ne_f rb e).1 rfl)
 have b3 := heap_setCell_same w2 rb 2 _ 224 sv' b2
 have b4 := hs.at b3 h.ne_rm
 refine ⟨⟨b4, ?_, ⟨_, ?_, hH.snoc (hD.tidy keyed3) p (I64_mid (by omega) (by omega))⟩, ⟨h.ok.w0, h.ok.w4, ?_⟩, ?_, h.low⟩, ?_⟩
 ·have e : (s.rows ++ [p]).length * s.w = s.rows.length * s.w + s.w := by rw [List.length_append, List.length_singleton, Nat.succ_mul]
  show World.ownsRow _ _ _ _ _ ((s.rows ++ [p]).length * s.w) (flat s.w (s.rows ++ [p]))
  rw [e, flat_snoc]
  refine own_later hg.own fun x cur hx hb => ?_
  exact hs.at ((Below.heap_setCell _ _ _ _ (hnb x hx).1).trans hb) (hnb x hx).2
 ·show World.ownsMap _ _ _ _ _ (s.rows ++ [p]).length _
  rw [List.length_append]; exact hD4
 ·intro q hq
  rcases List.mem_append.1 hq with hq | hq
  ·exact h.ok.fit q hq
  ·simp at hq; subst hq; exact ⟨hf, ht⟩
 ·show (s.rows ++ [p]).length ≤ 1000
  rw [List.length_append]; simp; omega
 ·have s1 : St (Ft rb mb sv) w1 w2 := ⟨hg.st.os, hg.st.tape, hg.st.output, hg.st.size, fun x hx hn => hg.st.block x hx fun e => hn (.inr (.inr e))⟩
  exact (s1.trans (St.setCell (S := Ft rb mb sv) (p := ⟨rb, 2, none⟩) sv' (.inl rfl)) fun _ _ q => q).trans hs fun x _ q => .inr (.inl q)
set_option maxHeartbeats 1600000 in
set_option maxRecDepth 100000 in
theorem push_ok {B : Nat} {W : World} {rb mb : Nat} {sv : Value} {s : CS} (h : Cl B W rb mb sv s) (p : Pt) (hf : p.fitB s.w = true) (ht : I64 p.t) (hsm : s.rows.length < 1000) :
  Calls Tryz.prog 139 #[.pointer (some ⟨rb, 0, none⟩), p.val s.comp] W fun e W' => e = .returned (.tuple #[.int .i64 (s.rows.length : Int), .nilIface]) ∧ ∃ sv', Cl B W' rb mb sv' ⟨s.comp, s.w, s.rows ++ [p]⟩ ∧ (sv'.ownBlock = sv.ownBlock ∨ ∃ x, sv'.ownBlock = some x ∧ W.heap.size ≤ x) ∧ St (Ft rb mb sv) W W' := by
 have BA : Hid (Below W.heap.size W (W.alloc (.cells (p.arr s.comp) 47))) := bAl _ _
 have CK := hid (check_ok (h.later BA.out) p hf)
 have HC := hid (h.later BA.out)
 have HF := hid hf
 have HT := hid ht
 have HLT := hid (fun k hk => (h.lt k hk).2)
 obtain ⟨sa, sc, rfl⟩ := own_slice h.row
 have hw0 := h.ok.w0
 have hw4 := h.ok.w4
 have hwi : (s.w : Int) ≤ 4 := by omega
 have hnw : s.rows.length * s.w ≤ 4000 := by have := Nat.mul_le_mul (show s.rows.length ≤ 1000 by omega) hw4; omega
 clear h hf ht
 unfold Pt.val at CK ⊢
 have HW : Hid ((W.alloc (.cells (p.arr s.comp) 47)).heap[W.heap.size]? = some (.cells (p.arr s.comp) 47 (0, 0))) := heap_alloc_new W _
 have HWs : (W.alloc (.cells (p.arr s.comp) 47)).heap.size = W.heap.size + 1 := by simp
 unfold Pt.arr at CK BA HC HW HWs
 go_enter Tryz.func139, Tryz.ntmps139
 go_wp2_with fail
 refine CK.out.mono ?_
 rintro e w1 ⟨rfl, hb⟩
 have C1 := hid (HC.out.later hb)
 have B1 := hid (BA.out.trans (hb.mono BA.out.size))
 have P1 := hid (blk_seen hb (Nat.le_refl _) HW.out)
 have hlt1 : W.heap.size < w1.heap.size := by have := hb.size; omega
 have LN := hid (len_any C1.out)
 clear hb CK HC HW HWs
 go_wp2_with fail
 refine LN.out.mono ?_
 rintro e w2 ⟨rfl, rfl⟩
 have c1 := C1.out.c1
 have c2 := C1.out.c2
 have hne : (Value.slice sa (s.rows.length * s.w) sc).ownBlock ≠ some rb := fun e => (C1.out.ne_f rb e).1 rfl
 have SRC := hid (row_src P1.out s.w)
 have RL := hid (p.row_len hw4)
 have hBw : B ≤ w2.heap.size := C1.out.base
 have hp0 : 0 < s.w := hw0
 have h5 : s.rows.length * s.w + s.w ≤ 5000 := by omega
 clear LN
 go_wp2_with fail
 go_region_law (refine step_cells rfl _ _ rfl C1.out.row hBw RL.out hp0 h5 SRC.out (row_one _ _) C1.out.box rfl hne rfl rfl ?_; intro g' cap w3 hgr hx3 hf3)
 all_goals
  obtain ⟨w4, hw4'⟩ : ∃ w4, w4 = w3.setCell ⟨rb, 2, none⟩ (.slice (some ⟨g', 0, none⟩) (s.rows.length * s.w + s.w) cap) := ⟨_, rfl⟩
  rw [← hw4']
  have HW4 := hid hw4'
  obtain ⟨D, hD, hH⟩ := C1.out.map
  have nsf : ∀ k, (Value.slice sa (s.rows.length * s.w) sc).ownBlock = some k → k < W.heap.size := fun k hk => HLT.out k (.inr (.inr hk))
  have D3 : w3.ownsMap Tryz.prog 3 (plainElem Tryz.prog 3) mb s.rows.length D := by
   have hlt := hD.lt
   obtain ⟨es, cl, hb, q⟩ := hD
   exact ⟨es, cl, (hgr.out.st.block mb hlt (fun e => (C1.out.ne_f mb e).2 rfl)).trans hb, q⟩
  have D4 : w4.ownsMap Tryz.prog 3 (plainElem Tryz.prog 3) mb s.rows.length D := by rw [hw4']; exact D3.setCell (fun e => C1.out.ne_rm e.symm) _
  obtain ⟨w6, hmu, D6, ht6⟩ := D4.drew.store keyed3 Tryz.underlying222 (by unfold maxLen; omega) (key_int (s.rows.length : Int) (I64_mid (by omega) (by omega))) (plainElem_int Tryz.underlying3 HT.out)
  have p3 := hgr.out.st.at P1.out (fun e => by have := nsf _ e; omega)
  have hrbW : rb < W.heap.size := HLT.out rb (.inl rfl)
  have hmbW : mb < W.heap.size := HLT.out mb (.inr (.inl rfl))
  have p4 : w4.heap[W.heap.size]? = some (.cells #[.int .i64 s.comp, .int .i64 p.a, .int .i64 p.b, .int .i64 p.c, .int .i64 p.d, .int .i64 p.t] 47 (0, 0)) := by
   rw [hw4', Below.heap_setCell _ _ _ _ (show W.heap.size ≠ rb by omega)]; exact p3
  have x4 := heap_setCell_same w3 rb 2 _ 224 (.slice (some ⟨g', 0, none⟩) (s.rows.length * s.w + s.w) cap) (hgr.out.st.at C1.out.box hne)
  rw [← hw4'] at x4
  have g6 : ∀ k, k < w4.heap.size → k ≠ mb → w6.heap[k]? = w4.heap[k]? := fun k hk hne => ht6.grown.block k (by simpa using hk) (by simpa using hne)
  have p6 := (g6 _ (Array.getElem?_eq_some_iff.1 p4).1 (by omega)).trans p4
  have x6 := (g6 _ (Array.getElem?_eq_some_iff.1 x4).1 C1.out.ne_rm).trans x4
  have K4 : Hid (w4.drew.cell? ⟨rb, 3, none⟩ = some (.map (some mb)) ∧ w4.drew.cell? ⟨W.heap.size, 5, none⟩ = some (.int .i64 p.t)) := ⟨cell_blk (W := w4) x4 rfl, cell_blk (W := w4) p4 rfl⟩
  have K6 : Hid (w6.cell? ⟨rb, 3, none⟩ = some (.map (some mb)) ∧ w6.cell? ⟨W.heap.size, 5, none⟩ = some (.int .i64 p.t)) := ⟨cell_blk x6 rfl, cell_blk p6 rfl⟩
  have s46 : St (fun x => x = mb) w4 w6 := by
   have s' := St.of_grown (S := fun x => x = mb) ht6.grown fun k e => by simpa using e.symm
   exact ⟨s'.os, s'.tape, s'.output, s'.size, s'.block⟩
  have FN := C1.out.pushed p HF.out HT.out hsm hgr.out (w4 := w6) (by rw [← hw4']; exact s46) D hD hH D6
  have HFN := hid FN
  have HAT := hid hgr.out.at'
  clear FN s46 g6 p6 x6 x4 p4 p3 D6 D4 D3 ht6 hD hH hw4' hgr hx3 hf3 c1 c2 nsf
  go_wp2_with fail
  go_region_held3 (fun W' => W'.cell? ⟨rb, 3, none⟩ = some (.map (some mb)) ∧ W'.cell? ⟨W.heap.size, 5, none⟩ = some (.int .i64 p.t)) (first | exact K4.out | exact K6.out) (fail)
  clear hmu K4 K6
  go_wp2_with fail
  go_ret2
  refine ⟨rfl, _, HFN.out.1, ?_, ?_⟩
  ·rcases HAT.out with h | ⟨x, h, h'⟩
   ·exact .inl h
   ·exact .inr ⟨x, h, by omega⟩
  ·exact (St.of_below B1.out).trans HFN.out.2 fun _ _ q => q
theorem splice_take {w : Nat} (hw : w ≤ 4) {cur : List Value} {l : List Pt} (hc : cur.take (l.length * w) = flat w l) (hL : l.length * w ≤ cur.length) {n : Nat} (hn : n < l.length) (p : Pt) :
  (cur.take (n * w) ++ p.row w ++ cur.drop (n * w + w)).take (l.length * w) = flat w (l.set n p) := by
 have hnw : n * w + w ≤ l.length * w := by rw [← Nat.succ_mul]; exact Nat.mul_le_mul_right _ hn
 rw [← flat_splice hw hn, ← hc, List.take_take, Nat.min_eq_left (by omega), List.take_append, List.take_of_length_le (by simp [p.row_len hw]; omega), List.drop_take]
 congr 2
 simp [p.row_len hw]
 omega
theorem set_take {w : Nat} (hw : w ≤ 4) {cur : List Value} {l : List Pt} (hc : cur.take (l.length * w) = flat w l) {n : Nat} {p : Pt} (hn : l[n]? = some p) {j : Nat} (hj : j < w) (x f : Int) :
  (cur.set (n * w + j) (vI x)).take (l.length * w) = flat w (l.set n (p.put j x f)) := by
 rw [← flat_set hw hn hj x f, ← hc, List.take_set]
theorem setRow_st (W : World) (g : Nat) (cs : Array Value) : St (fun k => k = g) W (W.setRow g cs) :=
 ⟨rfl, rfl, rfl, by simp [World.setRow], fun _ _ hn => setRow_other _ _ _ _ hn⟩
theorem drewN_st (S : Nat → Prop) (W : World) (m : Nat) : St S W (W.drewN m) := St.of_below (drewN_below W m)
theorem map_st {W W' : World} {mb : Nat} (h : W.drew.mapTurned W' mb) : St (fun k => k = mb) W W' := by
 have s' := St.of_grown (S := fun x => x = mb) h.grown fun k e => by simpa using e.symm
 exact ⟨s'.os, s'.tape, s'.output, s'.size, s'.block⟩
theorem map_st' {W W' : World} {mb : Nat} (h : W.mapTurned W' mb) : St (fun k => k = mb) W W' :=
 St.of_grown (S := fun x => x = mb) h.grown fun k e => by simpa using e.symm
theorem St.map {S : Nat → Prop} {W W' : World} (hs : St S W W') {mb n : Nat} {D : DataW Unit} (h : W.ownsMap Tryz.prog 3 (plainElem Tryz.prog 3) mb n D) (hn : ¬ S mb) : W'.ownsMap Tryz.prog 3 (plainElem Tryz.prog 3) mb n D := by
 have hlt := h.lt
 obtain ⟨es, cl, hb, q⟩ := h
 exact ⟨es, cl, (hs.block mb hlt hn).trans hb, q⟩
theorem wrap_mid {n : Int} (h0 : -1000000 ≤ n) (h1 : n ≤ 1000000) : IntKind.i64.wrap n = n := by
 rw [IntKind.wrap_i64]; omega
def CS.taken (s : CS) (n : Nat) (pl : Pt) : CS := ⟨s.comp, s.w, (s.rows.set n pl).dropLast⟩
theorem Cl.took {B : Nat} {W W' : World} {rb mb g cap : Nat} {cur : Array Value} {s : CS} (h : Cl B W rb mb (.slice (some ⟨g, 0, none⟩) (s.rows.length * s.w) cap) s) (n : Nat) (hn : n < s.rows.length) (pl : Pt) (hpl : s.rows[s.rows.length - 1]? = some pl)
  (hcl : s.rows.length * s.w ≤ cap) (hcm : cap ≤ maxLen) (hcs : cur.size = cap) (hfl : cur.toList.take (s.rows.length * s.w) = flat s.w s.rows) (hBg : B ≤ g)
  (hbox : W'.heap[rb]? = some (.cells #[.int .i64 s.comp, .int .i64 (s.w : Int), .slice (some ⟨g, 0, none⟩) ((s.rows.length - 1) * s.w) cap, .map (some mb)] 224 (0, 0)))
  (hg : W'.heap[g]? = some (.cells (cur.toList.take (n * s.w) ++ pl.row s.w ++ cur.toList.drop (n * s.w + (pl.row s.w).length)).toArray 3 (0, 0)))
  (D : DataW Unit) (hD : W'.ownsMap Tryz.prog 3 (plainElem Tryz.prog 3) mb (s.rows.length + 1) D) (hH : Holds D (s.rows.set n pl).dropLast) :
  Cl B W' rb mb (.slice (some ⟨g, 0, none⟩) ((s.rows.length - 1) * s.w) cap) (s.taken n pl) := by
 have hw4 := h.ok.w4
 have hnw : n * s.w + s.w ≤ s.rows.length * s.w := by rw [← Nat.succ_mul]; exact Nat.mul_le_mul_right _ hn
 have hl1 : (s.rows.length - 1) * s.w ≤ s.rows.length * s.w := Nat.mul_le_mul_right _ (by omega)
 have hdl : ((s.rows.set n pl).dropLast).length = s.rows.length - 1 := by simp
 have hrl := pl.row_len hw4
 refine ⟨hbox, ?_, ⟨D, own_size hD hH.2, hH⟩, ⟨h.ok.w0, hw4, ?_⟩, ?_, h.low⟩
 ·show World.ownsRow _ _ _ _ _ (((s.rows.set n pl).dropLast).length * s.w) (flat s.w (s.rows.set n pl).dropLast)
  rw [hdl]
  refine ⟨by rw [flat_len hw4, hdl]; omega, .inr ⟨g, cap, _, rfl, hBg, hg, by omega, hcm, ?_, ?_⟩⟩
  ·simp [hrl]; omega
  ·rw [Nat.mul_one]
   have e := splice_take hw4 (cur := cur.toList) hfl (by simp; omega) hn pl
   have e2 := congrArg (List.take ((s.rows.length - 1) * s.w)) e
   rw [List.take_take, Nat.min_eq_left hl1, flat_take hw4 _ _ (by simp)] at e2
   rw [List.toList_toArray, hrl, e2, List.dropLast_eq_take]
   simp
 ·intro q hq
  have hq' := List.dropLast_subset _ hq
  rcases List.mem_or_eq_of_mem_set hq' with h1 | h1
  ·exact h.ok.fit q h1
  ·subst h1; exact h.ok.fit _ (List.mem_of_getElem? hpl)
 ·show ((s.rows.set n pl).dropLast).length ≤ 1000
  rw [hdl]; have := h.small; omega
set_option maxHeartbeats 3200000 in
set_option maxRecDepth 100000 in
theorem take_ok {B : Nat} {W : World} {rb mb : Nat} {sv : Value} {s : CS} (h : Cl B W rb mb sv s) (n : Nat) (p : Pt) (hp : s.rows[n]? = some p) (pl : Pt) (hpl : s.rows[s.rows.length - 1]? = some pl) :
  Calls Tryz.prog 141 #[.pointer (some ⟨rb, 0, none⟩), .int .i64 (n : Int)] W fun e W' => e = .returned (.tuple #[p.val s.comp, .nilIface]) ∧ ∃ sv', Cl B W' rb mb sv' (s.taken n pl) ∧ sv'.ownBlock = sv.ownBlock ∧ St (Ft rb mb sv) W W' := by
 have hnl : n < s.rows.length := (List.getElem?_eq_some_iff.1 hp).1
 have hsm := h.small
 obtain ⟨g, cap, cur, hsv, hBg, hg, hLc, hcm, hcs, hfl⟩ := h.cells (by omega)
 subst hsv
 have hw0 := h.ok.w0
 have hw4 := h.ok.w4
 have H := hid h
 have HP := hid hp
 have HPL := hid hpl
 have BA : Hid (Below W.heap.size W (W.alloc (.cells #[.int .i64 0, .int .i64 0, .int .i64 0, .int .i64 0, .int .i64 0, .int .i64 0] 47))) := bAl _ _
 have RW := hid (row_some (h.later BA.out) n p hp)
 have hgW : g < W.heap.size := (h.lt g (.inr (.inr rfl))).2
 have hrW : rb < W.heap.size := (h.lt rb (.inl rfl)).2
 have hmW : mb < W.heap.size := (h.lt mb (.inr (.inl rfl))).2
 have HG := hid hg
 have HFL := hid hfl
 obtain ⟨last, hlast⟩ : ∃ last, last = s.rows.length - 1 := ⟨_, rfl⟩
 have hli : ((s.rows.length : Int) - 1) = (last : Int) := by omega
 have HLI := hid hli
 have HLA := hid hlast
 unfold Pt.val at RW ⊢
 clear h hp hpl hg hfl hli hlast
 go_enter Tryz.func141, Tryz.ntmps141
 go_wp2_with fail
 refine RW.out.mono ?_
 rintro e w1 ⟨rfl, hb⟩
 have R1 : Hid (w1.heap[W.heap.size]? = some (.cells (Pt.zero.arr 0) 47 (0, 0))) := blk_seen hb (Nat.le_refl _) (heap_alloc_new W (.cells #[.int .i64 0, .int .i64 0, .int .i64 0, .int .i64 0, .int .i64 0, .int .i64 0] 47))
 have B1 := hid (BA.out.trans (hb.mono BA.out.size))
 have hz1 : W.heap.size < w1.heap.size := by have := hb.size; simp at this; omega
 clear hb RW
 obtain ⟨w2, hw2⟩ : ∃ w2, w2 = w1.alloc (.cells #[.int .i64 s.comp, .int .i64 p.a, .int .i64 p.b, .int .i64 p.c, .int .i64 p.d, .int .i64 p.t] 47) := ⟨_, rfl⟩
 have b12 : Below w1.heap.size w1 w2 := by rw [hw2]; exact bAl _ _
 have B2 := hid (B1.out.trans (b12.mono B1.out.size))
 have R2 := hid (blk_seen b12 (Nat.le_refl _) R1.out)
 have O2 : Hid (w2.heap[w1.heap.size]? = some (.cells (p.arr s.comp) 47 (0, 0))) := by rw [hw2]; exact heap_alloc_new w1 _
 have C2 := hid (H.out.later B2.out)
 have G2 := hid (blk_seen B2.out (Nat.le_refl _) HG.out)
 have LN := hid (len_any C2.out)
 have HW2 := hid hw2
 clear b12 hw2
 go_wp2_with fail
 rw [← HW2.out]
 refine LN.out.mono ?_
 rintro e w3 ⟨rfl, rfl⟩
 have hsl : (s.rows.length : Int) ≤ 1000 := by omega
 clear LN
 have hnw : n * s.w + s.w ≤ s.rows.length * s.w := by rw [← Nat.succ_mul]; exact Nat.mul_le_mul_right _ hnl
 have hlw : last * s.w + s.w ≤ s.rows.length * s.w := by rw [← Nat.succ_mul]; exact Nat.mul_le_mul_right _ (by have := HLA.out; omega)
 have hL4 : s.rows.length * s.w ≤ 4000 := by have := Nat.mul_le_mul hsm hw4; omega
 have hpl' : s.rows[last]? = some pl := by rw [HLA.out]; exact HPL.out
 have CR := hid (fun m k (hk : k ≤ 1000) (hkw : k * s.w + s.w ≤ s.rows.length * s.w) => crow_any (W := w3.drewN m) (seen (drewN_below w3 m) (Nat.le_refl _) C2.out.c1) (seen (drewN_below w3 m) (Nat.le_refl _) C2.out.c2) (n := k) rfl hkw hLc hL4 hw0 hw4 hk)
 obtain ⟨cur', hcur'⟩ : ∃ cur', cur' = (cur.toList.take (n * s.w) ++ pl.row s.w ++ cur.toList.drop (n * s.w + (pl.row s.w).length)).toArray := ⟨_, rfl⟩
 have CP : ∀ m ty, (Builtin.copy_ #[113, 113] ty #[.slice (some ⟨g, n * s.w, none⟩) s.w (cap - n * s.w), .slice (some ⟨g, last * s.w, none⟩) s.w (cap - last * s.w)]).run Tryz.prog (w3.drewN m) = .ok (.int .i64 (s.w : Int)) ((w3.drewN m).setRow g cur') := by
  intro m ty
  rw [hcur']
  have hh := run_copy_row (P := Tryz.prog) (w3.drewN m) 113 113 ty 3 g (n * s.w) s.w (cap - n * s.w) ⟨g, last * s.w, none⟩ s.w (cap - last * s.w) cur 3 (pl.row s.w) Tryz.underlying113 infoInt G2.out (by rw [pl.row_len hw4]; exact (Nat.min_self _).symm) (row_cells (W := w3.drewN m) G2.out HFL.out hw4 hpl') (by rw [pl.row_len hw4]; omega) (row_one _ _)
  rw [hh, pl.row_len hw4]
  rfl
 have HPL' := hid hpl'
 have HCU := hid hcur'
 clear hpl' hcur'
 go_wp2_with fail
 rw [HLI.out]
 refine (CR.out 0 n (by omega) hnw).mono ?_
 rintro e w4 ⟨rfl, m1, rfl⟩
 rw [World.drewN_drewN]
 go_wp2_with fail
 refine (CR.out m1 last (by have := HLA.out; omega) hlw).mono ?_
 rintro e w4 ⟨rfl, m2, rfl⟩
 rw [World.drewN_drewN]
 go_wp2_with fail
 obtain ⟨w4, hw4'⟩ : ∃ w4, w4 = (w3.drewN (m1 + m2)).setRow g cur' := ⟨_, rfl⟩
 rw [← hw4']
 have ngr : g ≠ rb := (C2.out.ne_f g rfl).1
 have ngm : g ≠ mb := (C2.out.ne_f g rfl).2
 have nrm : rb ≠ mb := C2.out.ne_rm
 have s34 : St (fun k => k = g) w3 w4 := by rw [hw4']; exact (drewN_st (fun k => k = g) w3 _).trans (setRow_st _ g _) fun _ _ q => q
 have G4 : Hid (w4.heap[g]? = some (.cells cur' 3 (0, 0))) := by rw [hw4']; exact setRow_heap (w3.drewN (m1 + m2)) g cur _ 3 _ G2.out
 have X4 := hid (s34.at C2.out.box (fun e => ngr e.symm))
 have R4 := hid (s34.at R2.out (by omega))
 have O4 := hid (s34.at O2.out (by omega))
 obtain ⟨D, hD, hH⟩ := C2.out.map
 have hD4 := s34.map hD (fun e => ngm e.symm)
 have hIn : I64 (n : Int) := I64_mid (by omega) (by omega)
 have hIl : I64 (last : Int) := I64_mid (by omega) (by have := HLA.out; omega)
 have hpt : I64 pl.t := (H.out.ok.fit pl (List.mem_of_getElem? HPL.out)).2
 have tl : tickAt s.rows (last : Int) = pl.t := by unfold tickAt; rw [rowAt_nat, HPL'.out]
 have LK4 := look_one (W := w4.drew) hD4 hH (last : Int) hIl
 rw [tl] at LK4
 obtain ⟨w5, hmu, hD5, ht5⟩ := hD4.drew.store keyed3 Tryz.underlying222 (by unfold maxLen; omega) (key_int (n : Int) hIn) (plainElem_int Tryz.underlying3 hpt)
 have hH5 := hH.set (hD.tidy keyed3) hnl pl hIn
 have tl5 : tickAt (s.rows.set n pl) (last : Int) = pl.t := by
  unfold tickAt
  rw [rowAt_set _ _ _ hnl]
  by_cases e : (last : Int) = (n : Int)
  ·rw [if_pos e]
  ·rw [if_neg e, rowAt_nat, HPL'.out]
 have LK5 := look_one hD5 hH5 (last : Int) hIl
 rw [tl5] at LK5
 have s45 := map_st ht5
 have X5 := hid (s45.at X4.out nrm)
 have G5 := hid (s45.at G4.out ngm)
 have hz2 : w1.heap.size < w3.heap.size := (Array.getElem?_eq_some_iff.1 O2.out).1
 have R5 := hid (s45.at R4.out (by omega))
 have O5 := hid (s45.at O4.out (by omega))
 have S35 : Hid (St (fun k => k = g ∨ k = mb) w3 w5) := (St.trans (S := fun k => k = g ∨ k = mb) ⟨s34.os, s34.tape, s34.output, s34.size, fun k hk hn => s34.block k hk fun e => hn (.inl e)⟩ s45 fun _ _ q => .inr q)
 have HD5 := hid hD5
 have HH5 := hid hH5
 have K4 : Hid (w4.drew.cell? ⟨rb, 3, none⟩ = some (.map (some mb)) ∧ (Instr.lookup 222 (.map (some mb)) (.int .i64 (last : Int)) false).run Tryz.prog w4.drew = .ok (.int .i64 pl.t) w4.drew) := ⟨cell_blk (W := w4) X4.out rfl, LK4⟩
 have K5 : Hid (w5.cell? ⟨rb, 3, none⟩ = some (.map (some mb)) ∧ (Instr.lookup 222 (.map (some mb)) (.int .i64 (last : Int)) false).run Tryz.prog w5 = .ok (.int .i64 pl.t) w5) := ⟨cell_blk X5.out rfl, LK5⟩
 clear hD hH hD4 LK4 LK5 hD5 hH5 ht5 s34 s45 tl tl5 hw4' CR CP X4 R4 O4 G4
 go_region_held3 (fun W' => W'.cell? ⟨rb, 3, none⟩ = some (.map (some mb)) ∧ (Instr.lookup 222 (.map (some mb)) (.int .i64 (last : Int)) false).run Tryz.prog W' = .ok (.int .i64 pl.t) W') (first | exact K4.out | exact K5.out) (fail)
 clear hmu K4 K5
 obtain ⟨o2, ho2⟩ : ∃ o2, last * s.w = o2 := ⟨_, rfl⟩
 have e1 : (last : Int) * (s.w : Int) = (o2 : Int) := by rw [← ho2]; simp
 have q1 := cell_blk X5.out (j := 1) rfl
 have q2 := cell_blk X5.out (j := 2) rfl
 have f2 := blk_free X5.out 2
 have bo : (o2 : Int) ≤ (cap : Int) := by omega
 have bo4 : (o2 : Int) ≤ 4000 := by omega
 have wr : IntKind.i64.wrap (o2 : Int) = (o2 : Int) := wrap_mid (by omega) (by omega)
 have HO2 := hid ho2
 clear ho2
 go_wp2_with fail
 go_region_law (fail)
 all_goals
  obtain ⟨w6, hw6⟩ : ∃ w6, w6 = (w5.setCell ⟨rb, 2, none⟩ (.slice (some ⟨g, 0, none⟩) o2 cap)).drew := ⟨_, rfl⟩
  rw [← hw6]
  have s56 : St (fun k => k = rb) w5 w6 := by
   rw [hw6]
   have s' := St.setCell (S := fun k => k = rb) (a := w5) (p := ⟨rb, 2, none⟩) (.slice (some ⟨g, 0, none⟩) o2 cap) rfl
   exact ⟨s'.os, s'.tape, s'.output, s'.size, s'.block⟩
  have X6 : Hid (w6.heap[rb]? = some (.cells #[.int .i64 s.comp, .int .i64 (s.w : Int), .slice (some ⟨g, 0, none⟩) o2 cap, .map (some mb)] 224 (0, 0))) := by rw [hw6]; exact heap_setCell_same w5 rb 2 _ 224 _ X5.out
  have G6 := hid (s56.at G5.out ngr)
  have R6 := hid (s56.at R5.out (by omega))
  have O6 := hid (s56.at O5.out (by omega))
  have D6 := s56.map HD5.out (fun e => nrm e.symm)
  have c3 := cell_blk X6.out (j := 3) rfl
  obtain ⟨w7, hdel, hD7, ht7⟩ := D6.drop keyed3 Tryz.underlying222 (key_int (last : Int) hIl) 0
  have s67 := map_st' ht7
  have X7 := hid (s67.at X6.out nrm)
  have G7 := hid (s67.at G6.out ngm)
  have R7 := hid (s67.at R6.out (by omega))
  have O7 := hid (s67.at O6.out (by omega))
  have hsl' : (s.rows.set n pl).length = s.rows.length := by simp
  have hH7 := HH5.out.drop (HD5.out.tidy keyed3) (by omega) (by rw [hsl', HLI.out]; exact hIl)
  rw [hsl', HLI.out] at hH7
  have HD7 := hid hD7
  have HH7 := hid hH7
  have S37 : Hid (St (Ft rb mb (.slice (some ⟨g, 0, none⟩) (s.rows.length * s.w) cap)) w3 w7) := by
   refine (St.trans (S := Ft rb mb (.slice (some ⟨g, 0, none⟩) (s.rows.length * s.w) cap)) ⟨S35.out.os, S35.out.tape, S35.out.output, S35.out.size, fun k hk hn => S35.out.block k hk fun e => hn (e.elim (fun e => .inr (.inr (by rw [e]; rfl))) (fun e => .inr (.inl e)))⟩ s56 fun _ _ q => .inl q).trans s67 fun _ _ q => .inr (.inl q)
  clear D6 ht7 s56 s67 hD7 hH7 hw6 q1 q2 f2
  obtain ⟨d0, d1, d2, d3, d4, d5, -, -, -, -, -, -⟩ := lies O7.out
  obtain ⟨x0, x1, x2, x3, x4, x5, f0, f1, f2, f3, f4, f5⟩ := lies R7.out
  go_wp2_with fail
  have PB := put6_blk R7.out rfl s.comp p
  have PS := put6_st w7 W.heap.size s.comp p
  unfold put6 at PB PS
  obtain ⟨d0, d1, d2, d3, d4, d5, -, -, -, -, -, -⟩ := lies PB
  generalize (((((w7.setCell ⟨W.heap.size, 0, none⟩ (.int .i64 s.comp)).setCell ⟨W.heap.size, 1, none⟩ (.int .i64 p.a)).setCell ⟨W.heap.size, 2, none⟩ (.int .i64 p.b)).setCell ⟨W.heap.size, 3, none⟩ (.int .i64 p.c)).setCell ⟨W.heap.size, 4, none⟩ (.int .i64 p.d)).setCell ⟨W.heap.size, 5, none⟩ (.int .i64 p.t) = w8 at *
  have X8 := PS.at X7.out (by omega)
  have G8 := PS.at G7.out (by omega)
  have D8 := PS.map HD7.out (by omega)
  rw [HCU.out] at G8
  rw [← HO2.out, HLA.out] at X8
  have FN := H.out.took n hnl pl HPL.out hLc hcm hcs HFL.out hBg X8 G8 _ D8 HH7.out
  have SF : St (Ft rb mb (.slice (some ⟨g, 0, none⟩) (s.rows.length * s.w) cap)) W w8 := ((St.of_below B2.out).trans S37.out fun _ _ q => q).trans PS fun k hk q => by omega
  exact bodyPost_ret (v := .tuple #[.agg #[.int .i64 s.comp, .int .i64 p.a, .int .i64 p.b, .int .i64 p.c, .int .i64 p.d, .int .i64 p.t], .nilIface]) (by simp [results, Tryz.results141, go_sem, d0, d1, d2, d3, d4, d5]) rfl ⟨rfl, _, FN, rfl, SF⟩
theorem eqA (n : Nat) (h : ∀ (x : Int) (w : World), (Op.equalIn n 3 (.int .i64 x) (.int .i64 x)).run Tryz.prog w = .ok true w) (w : World) (a b c e : Int) : (Op.equalIn (n + 1) 45 (.agg #[.int .i64 a, .int .i64 b, .int .i64 c, .int .i64 e]) (.agg #[.int .i64 a, .int .i64 b, .int .i64 c, .int .i64 e])).run Tryz.prog w = .ok true w := by
 have u32 := Tryz.underlying45
 have a3 := Tryz.isAgg3
 have z3 := Tryz.sizeOf3
 simp only [Op.equalIn, Sem.run_bind, run_underlying u32, Result.andThen_ok, z3]
 simp [Std.Legacy.Range.forIn_eq_forIn_range', Std.Legacy.Range.size, List.range', part, a3, z3, h, go_sem]
theorem eqI (d : Nat) (x : Int) (w : World) : (Op.equalIn (d + 1) 3 (.int .i64 x) (.int .i64 x)).run Tryz.prog w = .ok true w := by
 rw [run_equalIn_int w d 3 .i64 .i64 x x Tryz.underlying3]
 simp
theorem eqPart (x a b c e t : Int) (w : World) : (Op.equalIn 10000 47 (.agg #[.int .i64 x, .int .i64 a, .int .i64 b, .int .i64 c, .int .i64 e, .int .i64 t]) (.agg #[.int .i64 x, .int .i64 a, .int .i64 b, .int .i64 c, .int .i64 e, .int .i64 t])).run Tryz.prog w = .ok true w := by
 have hS : Tryz.prog.underlying 47 = some (.struct (Tryz.prog.fieldsOf 47)) := by kernel_rfl
 have hp : Tryz.prog.stoodInHeld 47 = false := by kernel_rfl
 have h := run_equalIn_agg (P := Tryz.prog) w 9999 47 #[.int .i64 x, .int .i64 a, .int .i64 b, .int .i64 c, .int .i64 e, .int .i64 t] #[.int .i64 x, .int .i64 a, .int .i64 b, .int .i64 c, .int .i64 e, .int .i64 t] hS hp
 have u3 := Tryz.underlying3
 have a3 := Tryz.isAgg3
 have z3 := Tryz.sizeOf3
 have u32 := Tryz.underlying45
 have a32 := Tryz.isAgg45
 have z32 := Tryz.sizeOf45
 have hA : ∀ w, (Op.equalIn 9999 45 (.agg #[.int .i64 a, .int .i64 b, .int .i64 c, .int .i64 e]) (.agg #[.int .i64 a, .int .i64 b, .int .i64 c, .int .i64 e])).run Tryz.prog w = .ok true w := fun w => eqA 9998 (eqI 9997) w a b c e
 simp only [Program.fieldsOf, Tryz.underlying47] at h
 rw [show (10000 : Nat) = 9999 + 1 from rfl, h]
 clear h hS hp
 go_simp
theorem neqP (x a b c e t : Int) (w : World) : (binOp .neq 47 (.agg #[.int .i64 x, .int .i64 a, .int .i64 b, .int .i64 c, .int .i64 e, .int .i64 t]) (.agg #[.int .i64 x, .int .i64 a, .int .i64 b, .int .i64 c, .int .i64 e, .int .i64 t])).run Tryz.prog w = .ok (.bool false) w := by
 simp only [binOp]
 simp [Op.equal, Op.maxDepth, eqPart]
theorem eqlP (x a b c e t : Int) (w : World) : (binOp .eql 47 (.agg #[.int .i64 x, .int .i64 a, .int .i64 b, .int .i64 c, .int .i64 e, .int .i64 t]) (.agg #[.int .i64 x, .int .i64 a, .int .i64 b, .int .i64 c, .int .i64 e, .int .i64 t])).run Tryz.prog w = .ok (.bool true) w := by
 simp only [binOp]
 simp [Op.equal, Op.maxDepth, eqPart]
def gI (n : Nat) : Value := .int .i64 (n : Int)
def Ints (B : Nat) (W : World) (v : Value) (l : List Nat) : Prop := W.ownsRow B 3 1 v l.length (l.map gI)
theorem Ints.slice {B : Nat} {W : World} {v : Value} {l : List Nat} (h : Ints B W v l) : ∃ a c, v = .slice a l.length c := own_slice h
theorem wpList_num {ops : Array Oper} {rest : List Oper} {o : Oper} {a : Act} {Q : Exit → Act → World → Prop} (hgd : o.guard = none) (s x : Operand)
  (ho : o.op = .call { callee := .builtin .append, args := #[s, x], argTypes := #[113, 113] }) {B : Nat} {wc : World} {v : Value} {l : List Nat} {k : Nat} (hown : Ints B wc v l) (hl : l.length ≤ 1000) (hB : B ≤ wc.heap.size)
  (hs : a.eval s = v) (hx : a.eval x = .slice (some ⟨wc.heap.size, 0, none⟩) 1 1)
  (h : ∀ v' w2, Hid (Ints B w2 v' (l ++ [k])) → Hid (St (fun x => v.ownBlock = some x) wc w2) → wpList Tryz.prog ops Q rest (a.put o.dst v') w2) :
  wpList Tryz.prog ops Q (o :: rest) a (wc.alloc (.cells #[.int .i64 (k : Int)] 3)) := by
 obtain ⟨i0, hi, hz0, hz1, hz2⟩ := info_parts infoInt3
 have hb : Below wc.heap.size wc (wc.alloc (.cells #[.int .i64 (k : Int)] 3)) := bAl _ _
 have ho2 : (wc.alloc (.cells #[.int .i64 (k : Int)] 3)).ownsRow B 3 1 v l.length (l.map gI) := World.ownsRow.alloc hown _
 refine wpList_append_lies _ hgd s x 113 ho B 3 i0 (.int .i64 0) 1 8 Tryz.underlying113 hi hz0 hz1 hz2 rfl (by decide) v l.length (l.map gI) hs ho2 ⟨wc.heap.size, 0, none⟩ 1 1 [gI k] hx rfl (fun j u hu => by
  rw [add_at]
  match j, hu with
  | 0, hu => simp at hu; subst hu; exact new_cell wc _ 3
  | j + 1, hu => simp at hu) (by intro u hu; simp at hu; subst hu; rfl) (by decide) (by unfold maxLen; omega) (by omega) (by simp; omega) (wc.heap.size + 1) (by simp) ?_
 intro g' cap w2 ow hg hat hlt
 refine h _ w2 ?_ ((St.of_below hb).trans (St.of_grown (S := fun x => v.ownBlock = some x) hg fun k e => e) fun _ _ q => q)
 show World.ownsRow _ _ _ _ _ _ _
 have e : (l ++ [k]).length = l.length + 1 := by simp
 rw [e, List.map_append]
 exact ow
def since (l : List Pt) (f : Int) : Nat → List Nat
 | 0 => []
 | k + 1 => if f ≤ tickAt l (k : Int) then since l f k ++ [k] else since l f k
theorem since_len (l : List Pt) (f : Int) (k : Nat) : (since l f k).length ≤ k := by
 induction k with
 | zero => simp [since]
 | succ k ih =>
  unfold since
  split
  ·simp; omega
  ·omega
set_option maxHeartbeats 1600000 in
set_option maxRecDepth 100000 in
theorem since_any {B : Nat} {W : World} {rb mb : Nat} {sv : Value} {s : CS} (h : Cl B W rb mb sv s) (f : Int) :
  Calls Tryz.prog 89 #[.pointer (some ⟨rb, 0, none⟩), .int .i64 f] W fun e W' => ∃ v, e = .returned v ∧ Ints W.heap.size W' v (since s.rows f s.rows.length) ∧ Below W.heap.size W W' := by
 have H := hid h
 have LN := hid (len_any h)
 have hsm := h.small
 have hsi : (s.rows.length : Int) ≤ 1000 := by omega
 clear h
 go_enter Tryz.func89, Tryz.ntmps89
 go_wp2_with fail
 refine LN.out.mono ?_
 rintro e w1 ⟨rfl, rfl⟩
 clear LN
 go_wp2_with fail
 go_loopw [5, 6, 9] (fun lv _ i wr => ∃ k : Nat, k ≤ s.rows.length ∧ i = .int .i64 (k : Int) ∧ Hid (Ints w1.heap.size wr lv (since s.rows f k)) ∧ Hid (Below w1.heap.size w1 wr)) (fun _ _ i _ => s.rows.length - (intOf i).toNat)
 case atStart => exact ⟨0, Nat.zero_le _, rfl, World.ownsRow_nil _ _ _ _, Below.refl _ _⟩
 case round =>
  obtain ⟨k, hk, rfl, HL, HB⟩ := hrel
  by_cases hlt : k < s.rows.length
  ·have hki : (k : Int) < (s.rows.length : Int) := by omega
   have R1 := hid (H.out.later HB.out)
   have c3 := R1.out.c3
   obtain ⟨D, hD, hH⟩ := R1.out.map
   have LK := look_one hD hH (k : Int) (I64_mid (by omega) (by omega))
   clear hD hH
   have e2 := hid (show since s.rows f (k + 1) = if f ≤ tickAt s.rows (k : Int) then since s.rows f k ++ [k] else since s.rows f k from rfl)
   generalize tickAt s.rows (k : Int) = tk at *
   by_cases hge : f ≤ tk
   ·rw [if_pos hge] at e2
    have hul : (since s.rows f k).length ≤ 1000 := by have := since_len s.rows f k; omega
    have hw1 : w1.heap.size ≤ wr.heap.size := HB.out.size
    have hrl : rb < wr.heap.size := World.block_lt_of_cell? wr _ c3
    obtain ⟨la, lc, rfl⟩ := Ints.slice HL.out
    go_wp2_with (at_builtin; refine wpList_num rfl _ _ rfl HL.out hul hw1 rfl rfl ?_; intro v' w2 ho hst)
    have b2 : Hid (Below w1.heap.size w1 w2) := HB.out.trans (hst.out.below (fun x hx => (World.ownsRow.lt HL.out x hx).1) hw1)
    exact ⟨⟨k + 1, by omega, by go_num, by rw [e2.out]; exact ho.out, b2.out⟩, by simp [intOf]; omega⟩
   ·rw [if_neg hge] at e2
    go_wp2_with fail
    go_roundw
    case rel => exact ⟨k + 1, by omega, by go_num, by rw [e2.out]; exact HL.out, HB.out⟩
    case measure => simp [intOf]; omega
  ·have hki : ¬ ((k : Int) < (s.rows.length : Int)) := by omega
   have e1 : Hid (k = s.rows.length) := by show k = _; omega
   go_wp2_with fail
   go_ret
   exact ⟨_, rfl, by rw [← e1.out]; exact HL.out, HB.out⟩
set_option maxHeartbeats 400000 in
theorem since_nil (f : Int) (W : World) : Calls Tryz.prog 89 #[.pointer none, .int .i64 f] W fun e W' => e = .returned (.slice none 0 0) ∧ W' = W := by
 have LN := hid (len_nil W)
 go_enter Tryz.func89, Tryz.ntmps89
 go_wp2_with fail
 refine LN.out.mono ?_
 rintro e w1 ⟨rfl, rfl⟩
 clear LN
 go_wp2_with fail
 go_loop [5, 9] (fun l i => l = .slice none 0 0 ∧ i = .int .i64 0) (fun _ _ => 0)
 case atStart => exact ⟨rfl, rfl⟩
 case round =>
  obtain ⟨rfl, rfl⟩ := hrel
  go_wp2_with fail
  go_ret
  exact ⟨rfl, rfl⟩
end Co
namespace Rs
open Go.RowKit Go.Shelf Go.Maps
open At (bAl cell_blk drewN_below)
set_option maxHeartbeats 1600000 in
set_option maxRecDepth 100000 in
theorem same_any (W : World) (v u : Value) (l : List Prt) (h : PRow W v l) (h' : PRow W u l) (hl : l.length ≤ 900) :
  Calls Tryz.prog 20 #[v, u] W fun e W' => e = .returned (.bool true) ∧ Below W.heap.size W W' := by
 have H := hid h
 have H' := hid h'
 obtain ⟨a, c, rfl, -⟩ := h
 obtain ⟨a', c', rfl, -⟩ := h'
 have hli : (l.length : Int) ≤ 900 := by omega
 have nq := Co.neqP
 go_enter Tryz.func20, Tryz.ntmps20
 go_wp2_with fail
 go_loopg [5] l.length (fun gh i wr => ∃ k : Nat, k ≤ l.length ∧ gh = l.length - k ∧ i = .int .i64 (k : Int) ∧ Hid (Below W.heap.size W wr))
 case atStart => exact ⟨0, Nat.zero_le _, rfl, rfl, Below.refl _ _⟩
 case round =>
  rename World => wr
  obtain ⟨k, hk, rfl, rfl, HB⟩ := hrel
  by_cases hlt : k < l.length
  ·have hki : (k : Int) < (l.length : Int) := by omega
   obtain ⟨p, hp⟩ := at_lt l k hlt
   obtain ⟨b, o, rfl, six⟩ := (H.out.later HB.out).at hp
   obtain ⟨b', o', rfl, six'⟩ := (H'.out.later HB.out).at hp
   obtain ⟨d0, d1, d2, d3, d4, d5⟩ := six
   obtain ⟨f0, f1, f2, f3, f4, f5⟩ := six'
   clear hp
   go_wp2_with fail
   go_quiet (fail)
   go_wp2_with fail
   go_roundg (l.length - (k + 1))
   case measure => omega
   case rel => exact ⟨k + 1, by omega, rfl, by go_num, HB.out.trans ((drewN_below _ _).mono HB.out.size)⟩
  ·have hki : ¬ ((k : Int) < (l.length : Int)) := by omega
   go_wp2_with fail
   go_ret
   exact ⟨rfl, HB.out⟩
def WdRow (W : World) (v : Value) (ws : List Nat) : Prop := ∃ a c, v = .slice a ws.length c ∧ (ws = [] ∨ ∃ b o, a = some ⟨b, o, none⟩ ∧ ∀ (j : Nat) (x : Nat), ws[j]? = some x → W.cell? ⟨b, o + j * 7 + 1, none⟩ = some (.int .i64 (x : Int)))
theorem WdRow.later {W W' : World} {v : Value} {ws : List Nat} (h : WdRow W v ws) (hb : Below W.heap.size W W') : WdRow W' v ws := by
 obtain ⟨a, c, h1, h2⟩ := h
 refine ⟨a, c, h1, ?_⟩
 rcases h2 with h2 | ⟨b, o, h2, h3⟩
 ·exact .inl h2
 ·exact .inr ⟨b, o, h2, fun j p hj => At.seen hb (Nat.le_refl _) (h3 j p hj)⟩
def okW (ws : List Nat) : Prop := ws.length ≤ 16 ∧ ∀ w ∈ ws, 1 ≤ w ∧ w ≤ 4
def Prt.vals (p : Prt) : List Int := [p.v0, p.v1, p.v2, p.v3]
def fitP (ws : List Nat) (p : Prt) : Bool := decide (0 ≤ p.c) && match ws[p.c.toNat]? with
 | some w => (p.vals.drop w).all (· == 0)
 | none => false
theorem fit_out {ws : List Nat} {p : Prt} (h : p.c < 0 ∨ (ws.length : Int) ≤ p.c) : fitP ws p = false := by
 unfold fitP
 by_cases h0 : p.c < 0
 ·rw [decide_eq_false (by omega)]; rfl
 ·rw [List.getElem?_eq_none (by omega)]
  simp
theorem fit_in {ws : List Nat} {p : Prt} {n w : Nat} (hc : p.c = (n : Int)) (hw : ws[n]? = some w) : fitP ws p = (p.vals.drop w).all (· == 0) := by
 unfold fitP
 rw [hc, Int.toNat_natCast, hw]
 simp
theorem val_cell {W : World} {b k : Nat} {p : Prt} {e : TypeId} {x : Int} (h : W.heap[b]? = some (.cells p.arr e (0, 0))) (hx : p.vals[k]? = some x) : W.cell? ⟨b, 1 + k, none⟩ = some (.int .i64 x) := by
 refine cell_blk h ?_
 rw [Nat.add_comm]
 match k, hx with
 | 0, hx => simp [Prt.vals] at hx; subst hx; rfl
 | 1, hx => simp [Prt.vals] at hx; subst hx; rfl
 | 2, hx => simp [Prt.vals] at hx; subst hx; rfl
 | 3, hx => simp [Prt.vals] at hx; subst hx; rfl
 | k + 4, hx => simp [Prt.vals] at hx
theorem all_next {l : List Int} {w k : Nat} {x : Int} (hw : w ≤ k) (hx : l[k]? = some x) : (l.drop w).all (· == 0) = (((l.take k).drop w).all (· == 0) && ((x == 0) && (l.drop (k + 1)).all (· == 0))) := by
 obtain ⟨hl, rfl⟩ := List.getElem?_eq_some_iff.1 hx
 have e : l.drop w = (l.take k).drop w ++ l[k] :: l.drop (k + 1) := by
  have h1 : l = l.take k ++ l[k] :: l.drop (k + 1) := by
   rw [← List.drop_eq_getElem_cons hl, List.take_append_drop]
  have hlen : (l.take k).length = k := by simp; omega
  calc l.drop w = (l.take k ++ l[k] :: l.drop (k + 1)).drop w := by rw [← h1]
   _ = (l.take k).drop w ++ l[k] :: l.drop (k + 1) := by rw [List.drop_append_of_le_length (by omega)]
 rw [e, List.all_append, List.all_cons]
set_option maxHeartbeats 1600000 in
set_option maxRecDepth 100000 in
theorem fits_any (W : World) (va vb : Value) (hvb : ∃ a l c, vb = .slice a l c) (ws : List Nat) (p : Prt) (h : WdRow W va ws) (hok : okW ws) :
  Calls Tryz.prog 67 #[.agg #[va, vb], .agg #[.int .i64 p.c, .int .i64 p.v0, .int .i64 p.v1, .int .i64 p.v2, .int .i64 p.v3, .int .i64 p.t]] W fun e W' => e = .returned (.bool (fitP ws p)) ∧ Below W.heap.size W W' := by
 obtain ⟨ba, bl, bc, rfl⟩ := hvb
 have H0 := hid h
 obtain ⟨a, c, rfl, -⟩ := h
 obtain ⟨W2, hW2⟩ : ∃ W2, W2 = (W.alloc (.cells #[.slice a ws.length c, .slice ba bl bc] 25)).alloc (.cells p.arr 47) := ⟨_, rfl⟩
 have B2 : Hid (Below W.heap.size W W2) := by rw [hW2]; exact (bAl W _).alloc (by simp) _
 have K1 : Hid (W2.heap[W.heap.size]? = some (.cells #[.slice a ws.length c, .slice ba bl bc] 25 (0, 0))) := by
  rw [hW2]; exact (Below.heap_alloc _ _ _ (by simp)).trans (heap_alloc_new W _)
 have K2 : Hid (W2.heap[W.heap.size + 1]? = some (.cells p.arr 47 (0, 0))) := by
  rw [hW2]
  have := heap_alloc_new (W.alloc (.cells #[.slice a ws.length c, .slice ba bl bc] 25)) (.cells p.arr 47)
  rw [World.size_alloc] at this
  exact this
 have HW2 := hid hW2
 unfold Prt.arr at HW2
 clear hW2
 have H2 := hid (H0.out.later B2.out)
 have s0 : W2.cell? ⟨W.heap.size, 0, none⟩ = some (.slice a ws.length c) := cell_blk K1.out rfl
 obtain ⟨e0, e1, e2, e3, e4, e5⟩ := six_blk K2.out
 have hwl : (ws.length : Int) ≤ 16 := by have := hok.1; omega
 by_cases hin : p.c < 0 ∨ (ws.length : Int) ≤ p.c
 ·have R := hid (fit_out (p := p) hin)
  rcases hin with hin | hin
  ·go_enter Tryz.func67, Tryz.ntmps67
   go_upto_region 1 with fail
   rw [← HW2.out]
   go_wp2_with fail
   go_ret
   exact ⟨by rw [R.out]; rfl, B2.out⟩
  ·have h0 : ¬ (p.c < 0) := by omega
   go_enter Tryz.func67, Tryz.ntmps67
   go_upto_region 1 with fail
   rw [← HW2.out]
   go_wp2_with fail
   go_ret
   exact ⟨by rw [R.out]; rfl, B2.out⟩
 ·obtain ⟨n, hn⟩ : ∃ n : Nat, p.c = (n : Int) := Int.eq_ofNat_of_zero_le (by omega)
  have hnl : n < ws.length := by omega
  obtain ⟨w, hw⟩ := at_lt ws n hnl
  have hwk := hok.2 w (List.mem_of_getElem? hw)
  have R := hid (fit_in hn hw)
  obtain ⟨b, o, rfl, dw⟩ : ∃ b o, a = some ⟨b, o, none⟩ ∧ W2.cell? ⟨b, o + n * 7 + 1, none⟩ = some (.int .i64 (w : Int)) := by
   obtain ⟨a', c', h1, h2⟩ := H2.out
   obtain ⟨rfl, rfl⟩ : a = a' ∧ c = c' := by simpa using h1
   rcases h2 with h2 | ⟨b, o, h2, h3⟩
   ·rw [h2] at hw; simp at hw
   ·exact ⟨b, o, h2, h3 n w hw⟩
  have g0 : ¬ ((n : Int) < 0) := by omega
  have g1 : ¬ ((ws.length : Int) ≤ (n : Int)) := by omega
  have g2 : (n : Int) < (ws.length : Int) := by omega
  rw [hn] at e0
  have HN := hid hn
  clear hn hin hw hok
  rw [HN.out]
  go_enter Tryz.func67, Tryz.ntmps67
  go_upto_region 1 with fail
  rw [← HN.out, ← HW2.out, HN.out]
  go_wp2_with fail
  go_loopg [5] (4 - w) (fun gh i wr => ∃ k : Nat, w ≤ k ∧ k ≤ 4 ∧ gh = 4 - k ∧ i = .int .i64 (k : Int) ∧ Hid (((p.vals.take k).drop w).all (· == 0) = true) ∧ wr = W2)
  case atStart => exact ⟨w, Nat.le_refl _, hwk.2, rfl, rfl, by show _ = true; rw [List.drop_of_length_le (by simp; omega)]; rfl, rfl⟩
  case round =>
   obtain ⟨k, hwk', hk, rfl, rfl, HA, rfl⟩ := hrel
   by_cases hlt : k < 4
   ·have hki : (k : Int) < 4 := by omega
    obtain ⟨x, hx⟩ := at_lt p.vals k (by simp [Prt.vals]; omega)
    have d0 := val_cell K2.out hx
    have AN := hid (all_next hwk' hx)
    have TN : Hid (((p.vals.take (k + 1)).drop w).all (· == 0) = (((p.vals.take k).drop w).all (· == 0) && (x == 0))) := by
     show _ = _
     obtain ⟨hl, rfl⟩ := List.getElem?_eq_some_iff.1 hx
     rw [List.take_succ_eq_append_getElem hl, List.drop_append_of_le_length (by simp; omega), List.all_append]
     simp
    clear hx
    by_cases hx0 : x = 0
    ·have q : (x == 0) = true := by simp [hx0]
     rw [HA.out, q] at TN
     clear hx0
     go_wp2_with fail
     go_roundg (4 - (k + 1))
     case measure => omega
     case rel => exact ⟨k + 1, by omega, by omega, rfl, by go_num, TN.out, rfl⟩
    ·have q : (x == 0) = false := by simp [hx0]
     rw [q, Bool.false_and, Bool.and_false] at AN
     clear hx0
     go_wp2_with fail
     go_ret
     exact ⟨by rw [R.out, AN.out]; rfl, B2.out⟩
   ·have hki : ¬ ((k : Int) < 4) := by omega
    have E : Hid ((p.vals.drop w).all (· == 0) = true) := by
     have := HA.out
     rw [List.take_of_length_le (by simp [Prt.vals]; omega)] at this
     exact this
    go_wp2_with fail
    go_ret
    exact ⟨by rw [R.out, E.out]; rfl, B2.out⟩
end Rs
namespace At
open Go.RowKit Go.Shelf Go.Maps
def Msk (B : Nat) (W : World) (v : Value) (l : List Nat) : Prop := W.ownsRow B 49 1 v l.length (l.map gM)
theorem Msk.kept {B : Nat} {W W' : World} {v : Value} {l : List Nat} {T : Nat → Prop} (h : Msk B W v l) (hs : St T W W') (hd : ∀ k, v.ownBlock = some k → ¬ T k) : Msk B W' v l :=
 own_later h fun k _ hk hb => (hs.block k (Array.getElem?_eq_some_iff.1 hb).1 (hd k hk)).trans hb
theorem Msk.later {B : Nat} {W W' : World} {v : Value} {l : List Nat} (h : Msk B W v l) (hb : Below W.heap.size W W') : Msk B W' v l := own_later h fun _ _ _ hb' => blk_seen hb (Nat.le_refl _) hb'
theorem Msk.slice {B : Nat} {W : World} {v : Value} {l : List Nat} (h : Msk B W v l) : ∃ a c, v = .slice a l.length c := own_slice h
theorem Msk.lower {B B' : Nat} {W : World} {v : Value} {l : List Nat} (h : Msk B W v l) (hB : B' ≤ B) : Msk B' W v l :=
 ⟨h.1, h.2.elim .inl fun ⟨g, cap, cur, h1, h2, h3⟩ => .inr ⟨g, cap, cur, h1, by omega, h3⟩⟩
theorem Msk.cell {B : Nat} {W : World} {a : Option Addr} {c : Nat} {l : List Nat} (h : Msk B W (.slice a l.length c) l) {i m : Nat} (hi : l[i]? = some m) : ∃ g, a = some ⟨g, 0, none⟩ ∧ W.cell? ⟨g, i, none⟩ = some (.int .u32 (m : Int)) := by
 have hlt := (List.getElem?_eq_some_iff.1 hi).1
 obtain ⟨g, rfl, -, -⟩ := own_some h (by omega)
 refine ⟨g, rfl, ?_⟩
 rw [World.ownsRow.cellAt h i (by omega), List.getElem?_map, hi]
 rfl
theorem msk_one (W : World) (m : Nat) : Msk 0 (W.alloc (.cells #[.int .u32 (m : Int)] 49)) (.slice (some ⟨W.heap.size, 0, none⟩) 1 1) [m] :=
 ⟨rfl, .inr ⟨W.heap.size, 1, #[.int .u32 (m : Int)], rfl, Nat.zero_le _, heap_alloc_new W _, Nat.le_refl _, by unfold maxLen; omega, rfl, rfl⟩⟩
theorem msk_none (W : World) : Msk W.heap.size (W.alloc (.cells #[] 49)) (.slice (some ⟨W.heap.size, 0, none⟩) 0 0) [] :=
 World.ownsRow_lit (base := W.heap.size) (e := 49) (size := 1) W #[] 0 (Nat.le_refl _) (Nat.zero_le _) rfl
theorem run_msk {B N : Nat} {wc : World} {v sv : Value} {xs ns : List Nat} (hown : Msk N wc v xs) (hsrc : Msk B wc sv ns) (hl : xs.length + ns.length ≤ 200000) (hN : N ≤ wc.heap.size) (ty : TypeId) :
  ∃ v' w', (Builtin.append_ #[79, 79] ty #[v, sv]).run Tryz.prog wc = .ok v' w' ∧ Msk N w' v' (xs ++ ns) ∧ wc.grownBy w' v.ownBlock := by
 obtain ⟨i0, hi, hz0, hz1, hz2⟩ := info_parts infoInt33
 rcases hsrc.2 with ⟨h1, h2⟩ | ⟨g, cap, cur, h1, h2, h3, h4, h5, h6, h7⟩
 ·have hn : ns = [] := List.eq_nil_of_length_eq_zero h2
  subst hn
  rw [h1]
  refine ⟨v, wc, run_append_owned_none wc N 79 ty 49 i0 1 Tryz.underlying79 hi v xs.length (xs.map gM) hown, by rw [List.append_nil]; exact hown, ⟨rfl, rfl, rfl, Nat.le_refl _, fun _ _ _ => rfl⟩⟩
 ·rw [h1]
  have hc := hsrc
  rw [h1] at hc
  obtain ⟨v', w', hr, h8, h9, -, -⟩ := run_append_own_at (P := Tryz.prog) wc N 79 ty 49 i0 (.int .u32 0) 1 4 Tryz.underlying79 hi hz0 hz1 hz2 rfl (by decide) v xs.length (xs.map gM) hown ⟨g, 0, none⟩ ns.length cap (ns.map gM) (by simp) (fun j u hu => by
   rw [add_at]
   have hj : j < ns.length * 1 := by have := (List.getElem?_eq_some_iff.1 hu).1; simpa using this
   rw [World.ownsRow.cellAt hc j hj]; exact hu) (by intro u hu; obtain ⟨x, _, rfl⟩ := List.mem_map.1 hu; rfl) (by unfold maxLen; omega) (by omega) hN
  refine ⟨v', w', hr, ?_, h9⟩
  show World.ownsRow _ _ _ _ _ _ _
  rw [List.map_append, List.length_append]
  exact h8
theorem wpList_msk {ops : Array Oper} {rest : List Oper} {o : Oper} {a : Act} {Q : Exit → Act → World → Prop} (hgd : o.guard = none) (s x : Operand)
  (ho : o.op = .call { callee := .builtin .append, args := #[s, x], argTypes := #[79, 79] }) {B : Nat} {w2 wc : World} {v sv : Value} {xs ns : List Nat} (hb : Below w2.heap.size w2 wc) (hown : Msk w2.heap.size wc v xs) (hsrc : Msk B wc sv ns)
  (hl : xs.length + ns.length ≤ 200000) (hs : a.eval s = v) (hx : a.eval x = sv)
  (h : ∀ v' w4, Hid (Msk w2.heap.size w4 v' (xs ++ ns)) → Hid (Below w2.heap.size w2 w4) → wpList Tryz.prog ops Q rest (a.put o.dst v') w4) :
  wpList Tryz.prog ops Q (o :: rest) a wc := by
 refine wpList_plain hgd fun K hK => ?_
 obtain ⟨v', w', hr, h2, h3⟩ := run_msk hown hsrc hl hb.size o.type
 unfold Oper.wp
 simp [execOp, ho, resolve, invoke, builtin, hs, hx, hr, Result.andThen]
 exact hK _ _ (h v' w' h2 (hb.grown h3 hb.size fun k hk => (World.ownsRow.lt hown k hk).1))
end At
namespace Rs
open Go.RowKit Go.Shelf Go.Maps
open At (St bAl cell_blk blk_seen blk_free add)
theorem st_ro {S : Nat → Prop} {a b : World} (h : St S a b) : Ro.St S a b := ⟨h.os, h.tape, h.output, h.size, h.block⟩
theorem ro_st {S : Nat → Prop} {a b : World} (h : Ro.St S a b) : St S a b := ⟨h.os, h.tape, h.output, h.size, h.block⟩
structure SD where
 ws : List Nat
 r : Ro.RS
 p : List (List Prt)
 sets : List Nat
def WdLow (B : Nat) (W : World) (v : Value) (ws : List Nat) : Prop := ∃ a c, v = .slice a ws.length c ∧ (ws = [] ∨ ∃ b o, a = some ⟨b, o, none⟩ ∧ b < B ∧ ∀ (j : Nat) (x : Nat), ws[j]? = some x → W.cell? ⟨b, o + j * 7 + 1, none⟩ = some (.int .i64 (x : Int)))
theorem WdLow.row {B : Nat} {W : World} {v : Value} {ws : List Nat} (h : WdLow B W v ws) : WdRow W v ws := by
 obtain ⟨a, c, h1, h2⟩ := h
 refine ⟨a, c, h1, ?_⟩
 rcases h2 with h2 | ⟨b, o, h2, -, h3⟩
 ·exact .inl h2
 ·exact .inr ⟨b, o, h2, h3⟩
theorem WdLow.move {B : Nat} {W W' : World} {v : Value} {ws : List Nat} (h : WdLow B W v ws) (hb : Below B W W') : WdLow B W' v ws := by
 obtain ⟨a, c, h1, h2⟩ := h
 refine ⟨a, c, h1, ?_⟩
 rcases h2 with h2 | ⟨b, o, h2, h0, h3⟩
 ·exact .inl h2
 ·exact .inr ⟨b, o, h2, h0, fun j x hx => (hb.cell (p := ⟨b, o + j * 7 + 1, none⟩) h0).trans (h3 j x hx)⟩
structure SV where
 va : Value
 vb : Value
 rb : Nat
 gb : Nat
 ib : Nat
 fv : Value
 t : Nat
 pv : List Value
 sv : Value
def SV.cells (x : SV) : List Value := x.va :: x.vb :: .pointer (some ⟨x.rb, 0, none⟩) :: (x.pv ++ [x.sv])
def SV.fp (x : SV) (ub k : Nat) : Prop := k = ub ∨ Ro.Fu x.rb x.gb x.ib x.fv k ∨ (∃ v ∈ x.pv, v.ownBlock = some k) ∨ x.sv.ownBlock = some k
def okL (ws : List Nat) (l : List Prt) : Prop := l.Pairwise (fun x y => x.c < y.c) ∧ ∀ x ∈ l, 0 ≤ x.c ∧ x.c < (ws.length : Int)
structure Sb (B : Nat) (W : World) (ub : Nat) (x : SV) (s : SD) : Prop where
 box : W.heap[ub]? = some (.cells x.cells.toArray 81 (0, 0))
 low : B ≤ ub
 wd : WdLow B W x.va s.ws
 vb : ∃ a l c, x.vb = .slice a l c
 okw : okW s.ws
 roll : Ro.Rr B W x.rb x.gb x.ib x.fv x.t s.r
 n1 : x.pv.length = 64
 n2 : s.p.length = 64
 rows : ∀ (i : Nat) v l, x.pv[i]? = some v → s.p[i]? = some l → Prts B W v l
 okp : ∀ l ∈ s.p, okL s.ws l
 sets : At.Msk B W x.sv s.sets
theorem Prts.blk {B : Nat} {W : World} {v : Value} {l : List Prt} (h : Prts B W v l) {k : Nat} (hk : v.ownBlock = some k) : ∃ c fr, W.heap[k]? = some (.cells c 47 fr) := by
 rcases h.2 with ⟨h1, -⟩ | ⟨g, cap, cur, h1, h2, h3, h4⟩
 ·rw [h1] at hk; simp [Value.ownBlock] at hk
 ·rw [h1] at hk
  obtain rfl : g = k := by simpa [Value.ownBlock] using hk
  exact ⟨_, _, h3⟩
theorem msk_blk {B : Nat} {W : World} {v : Value} {l : List Nat} (h : At.Msk B W v l) {k : Nat} (hk : v.ownBlock = some k) : ∃ c fr, W.heap[k]? = some (.cells c 49 fr) := by
 rcases h.2 with ⟨h1, -⟩ | ⟨g, cap, cur, h1, h2, h3, h4⟩
 ·rw [h1] at hk; simp [Value.ownBlock] at hk
 ·rw [h1] at hk
  obtain rfl : g = k := by simpa [Value.ownBlock] using hk
  exact ⟨_, _, h3⟩
theorem int_blk {B : Nat} {W : World} {v : Value} {n : Nat} {l : List Value} (h : W.ownsRow B 3 1 v n l) {k : Nat} (hk : v.ownBlock = some k) : ∃ c fr, W.heap[k]? = some (.cells c 3 fr) := by
 rcases h.2 with ⟨h1, -⟩ | ⟨g, cap, cur, h1, h2, h3, h4⟩
 ·rw [h1] at hk; simp [Value.ownBlock] at hk
 ·rw [h1] at hk
  obtain rfl : g = k := by simpa [Value.ownBlock] using hk
  exact ⟨_, _, h3⟩
section
variable {B : Nat} {W W' : World} {ub : Nat} {x : SV} {s : SD}
theorem Sb.row_at (h : Sb B W ub x s) {v : Value} (hv : v ∈ x.pv) : ∃ l, Prts B W v l := by
 obtain ⟨i, hi, rfl⟩ := List.getElem_of_mem hv
 obtain ⟨l, hl⟩ := at_lt s.p i (by rw [h.n2, ← h.n1]; exact hi)
 exact ⟨l, h.rows i _ l (List.getElem?_eq_getElem hi) hl⟩
theorem Sb.lt (h : Sb B W ub x s) (k : Nat) (hk : x.fp ub k) : B ≤ k ∧ k < W.heap.size := by
 rcases hk with rfl | hk | ⟨v, hv, hk⟩ | hk
 ·exact ⟨h.low, (Array.getElem?_eq_some_iff.1 h.box).1⟩
 ·exact h.roll.lt k hk
 ·obtain ⟨l, hl⟩ := h.row_at hv
  exact hl.lt k hk
 ·exact World.ownsRow.lt h.sets k hk
theorem Sb.kept {T : Nat → Prop} (h : Sb B W ub x s) (hs : St T W W') (hd : ∀ k, x.fp ub k → ¬ T k) (hb : Below B W W') : Sb B W' ub x s where
 box := hs.at h.box (hd _ (.inl rfl))
 low := h.low
 wd := h.wd.move hb
 vb := h.vb
 okw := h.okw
 roll := h.roll.kept (st_ro hs) fun k hk => hd k (.inr (.inl hk))
 n1 := h.n1
 n2 := h.n2
 rows := fun i v l hv hl => (h.rows i v l hv hl).kept hs fun k hk => hd k (.inr (.inr (.inl ⟨v, List.mem_of_getElem? hv, hk⟩)))
 okp := h.okp
 sets := h.sets.kept hs fun k hk => hd k (.inr (.inr (.inr hk)))
theorem Sb.big (h : Sb B W ub x s) : B ≤ W.heap.size := Nat.le_trans h.low (Nat.le_of_lt (Array.getElem?_eq_some_iff.1 h.box).1)
theorem Sb.later (h : Sb B W ub x s) (hb : Below W.heap.size W W') : Sb B W' ub x s := h.kept (T := fun _ => False) (St.of_below hb) (fun _ _ q => q) (hb.mono h.big)
theorem Sb.apart (h : Sb B W ub x s) {k : Nat} (hk : Ro.Fu x.rb x.gb x.ib x.fv k) : k ≠ ub ∧ (∀ v ∈ x.pv, v.ownBlock ≠ some k) ∧ x.sv.ownBlock ≠ some k := by
 have ty : ∃ c fr t, W.heap[k]? = some (.cells c t fr) ∧ t ≠ 81 ∧ t ≠ 47 ∧ t ≠ 49 := by
  rcases hk with rfl | rfl | rfl | hk
  ·exact ⟨_, _, _, h.roll.box, by decide, by decide, by decide⟩
  ·exact ⟨_, _, _, h.roll.gens, by decide, by decide, by decide⟩
  ·exact ⟨_, _, _, h.roll.isb, by decide, by decide, by decide⟩
  ·obtain ⟨c, fr, e⟩ := int_blk h.roll.free hk
   exact ⟨_, _, _, e, by decide, by decide, by decide⟩
 obtain ⟨c, fr, t, e, t1, t2, t3⟩ := ty
 refine ⟨fun q => ?_, fun v hv q => ?_, fun q => ?_⟩
 ·rw [q, h.box] at e
  simp at e
  exact t1 e.2.1.symm
 ·obtain ⟨l, hl⟩ := h.row_at hv
  obtain ⟨c', fr', e'⟩ := hl.blk q
  rw [e'] at e
  simp at e
  exact t2 e.2.1.symm
 ·obtain ⟨c', fr', e'⟩ := msk_blk h.sets q
  rw [e'] at e
  simp at e
  exact t3 e.2.1.symm
theorem Sb.own (h : Sb B W ub x s) : (∀ v ∈ x.pv, v.ownBlock ≠ some ub) ∧ x.sv.ownBlock ≠ some ub := by
 refine ⟨fun v hv q => ?_, fun q => ?_⟩
 ·obtain ⟨l, hl⟩ := h.row_at hv
  obtain ⟨c', fr', e'⟩ := hl.blk q
  rw [h.box] at e'
  simp at e'
 ·obtain ⟨c', fr', e'⟩ := msk_blk h.sets q
  rw [h.box] at e'
  simp at e'
theorem Sb.cell (h : Sb B W ub x s) {j : Nat} {v : Value} (hv : x.cells[j]? = some v) : W.cell? ⟨ub, j, none⟩ = some v := cell_blk h.box (by simpa using hv)
theorem Sb.c0 (h : Sb B W ub x s) : W.cell? ⟨ub, 0, none⟩ = some x.va := h.cell rfl
theorem Sb.c1 (h : Sb B W ub x s) : W.cell? ⟨ub, 1, none⟩ = some x.vb := h.cell rfl
theorem Sb.c2 (h : Sb B W ub x s) : W.cell? ⟨ub, 2, none⟩ = some (.pointer (some ⟨x.rb, 0, none⟩)) := h.cell rfl
theorem Sb.cp (h : Sb B W ub x s) {i : Nat} {v : Value} (hv : x.pv[i]? = some v) : W.cell? ⟨ub, 3 + i, none⟩ = some v := by
 refine h.cell ?_
 have hi := (List.getElem?_eq_some_iff.1 hv).1
 rw [show 3 + i = i + 3 by omega]
 show (x.pv ++ [x.sv])[i]? = some v
 rw [List.getElem?_append_left hi]
 exact hv
theorem Sb.cs (h : Sb B W ub x s) : W.cell? ⟨ub, 67, none⟩ = some x.sv := by
 refine h.cell ?_
 show (x.pv ++ [x.sv])[64]? = some x.sv
 rw [List.getElem?_append_right (by rw [h.n1]; omega), h.n1]
 rfl
structure Gs (B : Nat) (W : World) (ub : Nat) (x : SV) (W' : World) (x' : SV) (s' : SD) : Prop where
 sb : Sb B W' ub x' s'
 st : St (x.fp ub) W W'
 new : ∀ k, x'.fp ub k → x.fp ub k ∨ W.heap.size ≤ k
theorem Gs.below {x' : SV} {s' : SD} (h : Gs B W ub x W' x' s') (h0 : Sb B W ub x s) : Below B W W' := h.st.below (fun k hk => (h0.lt k hk).1) h0.big
theorem Gs.stay (h : Sb B W ub x s) (hb : Below W.heap.size W W') : Gs B W ub x W' x s := ⟨h.later hb, St.of_below hb, fun _ q => .inl q⟩
theorem Gs.then {W1 W2 : World} {x1 x2 : SV} {s1 s2 : SD} (h : Gs B W ub x W1 x1 s1) (k : Gs B W1 ub x1 W2 x2 s2) : Gs B W ub x W2 x2 s2 :=
 ⟨k.sb, h.st.trans k.st fun y hy hf => (h.new y hf).elim id fun q => by omega, fun y hy => (k.new y hy).elim (h.new y) fun q => .inr (Nat.le_trans h.st.size q)⟩
end
section
variable {B : Nat} {W0 W W' : World} {ub : Nat} {x : SV} {s : SD}
theorem Sb.put_row (h0 : Sb B W0 ub x s) (hb : Below W0.heap.size W0 W) {i : Nat} {v : Value} {l : List Prt} (hi : i < 64) (hv : Prts W0.heap.size W v l) (hl : okL s.ws l) :
  Gs B W0 ub x (W.setCell ⟨ub, 3 + i, none⟩ v) { x with pv := x.pv.set i v } { s with p := s.p.set i l } := by
 have h := h0.later hb
 have hu := (h0.lt ub (.inl rfl)).2
 have s1 : St (fun k => k = ub) W (W.setCell ⟨ub, 3 + i, none⟩ v) := St.setCell _ rfl
 have e1 : x.cells.toArray.setIfInBounds (3 + i) v = (SV.cells { x with pv := x.pv.set i v }).toArray := by
  rw [List.setIfInBounds_toArray]
  congr 1
  rw [show 3 + i = i + 3 by omega]
  show _ :: _ :: _ :: ((x.pv ++ [x.sv]).set i v) = _
  rw [List.set_append_left _ _ (by rw [h.n1]; exact hi)]
  rfl
 refine ⟨⟨?_, h.low, h.wd.move (s1.below (fun k hk => hk ▸ h.low) h.big), h.vb, h.okw, h.roll.kept (st_ro s1) (fun k hk e => (h.apart hk).1 e), ?_, ?_, ?_, ?_, h.sets.kept s1 fun k hk e => h.own.2 (e ▸ hk)⟩, ?_, ?_⟩
 ·rw [← e1]
  exact heap_setCell_same W ub (3 + i) _ 81 v h.box
 ·simp [h.n1]
 ·simp [h.n2]
 ·intro j u q hu' hq
  by_cases e : i = j
  ·subst e
   simp only [List.getElem?_set_self (show i < x.pv.length by rw [h.n1]; exact hi), Option.some.injEq] at hu'
   simp only [List.getElem?_set_self (show i < s.p.length by rw [h.n2]; exact hi), Option.some.injEq] at hq
   subst hu' hq
   exact (hv.lower h0.big).kept s1 fun k hk e => by
    have := (hv.lt k hk).1
    omega
  ·simp only [List.getElem?_set_ne e] at hu' hq
   exact (h.rows j u q hu' hq).kept s1 fun k hk e => h.own.1 u (List.mem_of_getElem? hu') (e ▸ hk)
 ·intro q hq
  rcases List.mem_or_eq_of_mem_set hq with hq | rfl
  ·exact h.okp q hq
  ·exact hl
 ·exact (St.of_below (S := x.fp ub) hb).trans s1 fun k _ hk => .inl hk
 ·rintro k (rfl | hk | ⟨u, hu', hk⟩ | hk)
  ·exact .inl (.inl rfl)
  ·exact .inl (.inr (.inl hk))
  ·rcases List.mem_or_eq_of_mem_set hu' with hu' | rfl
   ·exact .inl (.inr (.inr (.inl ⟨u, hu', hk⟩)))
   ·exact .inr (hv.lt k hk).1
  ·exact .inl (.inr (.inr (.inr hk)))
theorem Sb.put_sets (h0 : Sb B W0 ub x s) (hb : Below W0.heap.size W0 W) {v : Value} {l : List Nat} (hv : At.Msk W0.heap.size W v l) :
  Gs B W0 ub x (W.setCell ⟨ub, 67, none⟩ v) { x with sv := v } { s with sets := l } := by
 have h := h0.later hb
 have hu := (h0.lt ub (.inl rfl)).2
 have s1 : St (fun k => k = ub) W (W.setCell ⟨ub, 67, none⟩ v) := St.setCell _ rfl
 have e1 : x.cells.toArray.setIfInBounds 67 v = (SV.cells { x with sv := v }).toArray := by
  rw [List.setIfInBounds_toArray]
  congr 1
  show _ :: _ :: _ :: ((x.pv ++ [x.sv]).set 64 v) = _
  rw [List.set_append_right _ _ (by rw [h.n1]; omega), h.n1]
  rfl
 refine ⟨⟨?_, h.low, h.wd.move (s1.below (fun k hk => hk ▸ h.low) h.big), h.vb, h.okw, h.roll.kept (st_ro s1) (fun k hk e => (h.apart hk).1 e), h.n1, h.n2, fun j u q hu' hq => (h.rows j u q hu' hq).kept s1 fun k hk e => h.own.1 u (List.mem_of_getElem? hu') (e ▸ hk), h.okp, ?_⟩, ?_, ?_⟩
 ·rw [← e1]
  exact heap_setCell_same W ub 67 _ 81 v h.box
 ·exact (hv.lower h0.big).kept s1 fun k hk e => by
   have := (World.ownsRow.lt hv k hk).1
   omega
 ·exact (St.of_below (S := x.fp ub) hb).trans s1 fun k _ hk => .inl hk
 ·rintro k (rfl | hk | hk | hk)
  ·exact .inl (.inl rfl)
  ·exact .inl (.inr (.inl hk))
  ·exact .inl (.inr (.inr (.inl hk)))
  ·exact .inr (World.ownsRow.lt hv k hk).1
end
def SD.noted (s : SD) (m : Nat) : SD := { s with sets := add s.sets m }
set_option maxHeartbeats 1600000 in
set_option maxRecDepth 100000 in
theorem note_any {B : Nat} {W : World} {ub : Nat} {x : SV} {s : SD} (h : Sb B W ub x s) (m : Nat) (hn : s.sets.length ≤ 1000) :
  Calls Tryz.prog 71 #[.pointer (some ⟨ub, 0, none⟩), .int .u32 (m : Int)] W fun e W' => e = .returned (.tuple #[]) ∧ ∃ x', Gs B W ub x W' x' (s.noted m) := by
 have H := hid h
 obtain ⟨la, lc, hsv⟩ := h.sets.slice
 have c1 := h.cs
 rw [hsv] at c1
 have hd : (s.sets.length : Int) ≤ 1000 := by omega
 go_enter Tryz.func71, Tryz.ntmps71
 go_wp2_with fail
 go_loopg [4] s.sets.length (fun gh i wr => ∃ k : Nat, k ≤ s.sets.length ∧ gh = s.sets.length - k ∧ i = .int .i64 (k : Int) ∧ Hid (k ≤ s.sets.idxOf m) ∧ wr = W)
 case atStart => exact ⟨0, Nat.zero_le _, rfl, rfl, Nat.zero_le _, rfl⟩
 case round =>
  obtain ⟨k, hk, rfl, rfl, HK, rfl⟩ := hrel
  by_cases hlt : k < s.sets.length
  ·have hki : (k : Int) < (s.sets.length : Int) := by omega
   obtain ⟨a, ha⟩ := at_lt s.sets k hlt
   have HM := H.out.sets
   rw [hsv] at HM
   obtain ⟨g, rfl, d0⟩ := At.Msk.cell HM ha
   by_cases e : a = m
   ·subst e
    have PE : Hid (s.noted a = s) := by show s.noted a = s; unfold SD.noted add; rw [if_pos (List.mem_of_getElem? ha)]
    clear ha HM
    go_wp2_with fail
    (try simp only [Exit.inBlock, Exit.then]); refine bodyPost_ret (results_none rfl _ _ _) rfl ?_
    refine ⟨rfl, x, ?_⟩
    rw [PE.out]
    exact Gs.stay H.out (Below.refl _ _)
   ·have q : (((a : Nat) : Int) == (m : Int)) = false := by rw [beq_eq_false_iff_ne]; exact_mod_cast e
    have HK' : Hid (k + 1 ≤ s.sets.idxOf m) := by
     show k + 1 ≤ s.sets.idxOf m
     refine Nat.lt_of_le_of_ne HK.out fun ek => ?_
     have hmem : m ∈ s.sets := List.idxOf_lt_length_iff.1 (by omega)
     have := At.idx_get hmem
     rw [← ek, ha] at this
     exact e (by simpa using this)
    clear e ha HM
    go_wp2_with fail
    go_roundg (s.sets.length - (k + 1))
    case measure => omega
    case rel => exact ⟨k + 1, by omega, rfl, by go_num, HK'.out, rfl⟩
  ·have hki : ¬ ((k : Int) < (s.sets.length : Int)) := by omega
   have hml : m ∉ s.sets := fun q => by
    have := List.idxOf_lt_length_of_mem q
    have := HK.out
    omega
   have PE : Hid (s.noted m = { s with sets := s.sets ++ [m] }) := by show s.noted m = _; unfold SD.noted add; rw [if_neg hml]
   rename World => W
   have HM := H.out.sets
   rw [hsv] at HM
   have ul := (H.out.lt ub (.inl rfl)).2
   have un : ¬ (ub = W.heap.size) := by omega
   have b1 := bAl W (.cells #[] 49)
   have O1 := hid (At.msk_none W)
   have S1 := hid (At.Msk.later HM b1)
   have B1 := hid b1
   have hl1 : ([] : List Nat).length + s.sets.length ≤ 200000 := by simp; omega
   have hl2 : s.sets.length + [m].length ≤ 200000 := by simp; omega
   have KU : Hid (∀ W', Below W.heap.size W W' → W'.cell? ⟨ub, 67, none⟩ = some (.slice la s.sets.length lc) ∧ W'.frozen? ⟨ub, 67, none⟩ = false) := fun W' hb => by
    have b := H.out.later hb
    have c := b.cs
    rw [hsv] at c
    exact ⟨c, blk_free b.box 67⟩
   clear HM b1 hml hd HK
   go_wp2_with (first
    | (at_builtin; refine At.wpList_msk (xs := []) (w2 := W) rfl _ _ rfl B1.out O1.out S1.out hl1 rfl rfl ?_; intro v4 w4 H4 HB4; clear O1; obtain ⟨a4, c4, rfl⟩ := At.Msk.slice H4.out)
    | (at_builtin; refine At.wpList_msk (xs := s.sets) (ns := [m]) (w2 := W) rfl _ _ rfl (HB4.out.trans ((bAl w4 _).mono HB4.out.size)) (At.Msk.later H4.out (bAl w4 _)) (At.msk_one w4 m) hl2 rfl rfl ?_; intro v5 w5 H5 HB5; obtain ⟨a5, c5, rfl⟩ := At.Msk.slice H5.out; have ku := (KU.out _ HB5.out).1; have kf := (KU.out _ HB5.out).2))
   have FN := hid (H.out.put_sets HB5.out H5.out)
   go_end0
   rw [PE.out]
   have fn := FN.out
   rw [show (s.sets ++ [m]).length = s.sets.length + 1 by simp] at fn
   exact ⟨rfl, _, fn⟩
def SD.at (s : SD) (k : Nat) : List Prt := s.p.getD k []
section
variable {B : Nat} {W W' : World} {ub : Nat} {x : SV} {s : SD}
theorem Sb.place (h : Sb B W ub x s) {k : Nat} (hk : k < 64) : ∃ v, x.pv[k]? = some v ∧ W.cell? ⟨ub, 3 + k, none⟩ = some v ∧ Prts B W v (s.at k) ∧ okL s.ws (s.at k) := by
 obtain ⟨v, hv⟩ := at_lt x.pv k (by rw [h.n1]; exact hk)
 obtain ⟨l, hl⟩ := at_lt s.p k (by rw [h.n2]; exact hk)
 have e : s.at k = l := by unfold SD.at; rw [List.getD_eq_getElem?_getD, hl]; rfl
 exact ⟨v, hv, h.cp hv, e ▸ h.rows k v l hv hl, e ▸ h.okp l (List.mem_of_getElem? hl)⟩
theorem alive_lt {r : Ro.RS} {i g : Int} (h : r.aliveB i g = true) : ∃ k : Nat, i = (k : Int) ∧ k < r.gens.length := by
 obtain ⟨h0, _, _, d⟩ := (Ro.RS.aliveB_iff _ _ _).1 h
 obtain ⟨k, rfl⟩ := Int.eq_ofNat_of_zero_le h0
 exact ⟨k, rfl, by simpa using (List.getElem?_eq_some_iff.1 d).1⟩
end
theorem okL_few {ws : List Nat} {l : List Prt} (h : okL ws l) (hw : ws.length ≤ 16) : l.length ≤ 16 := by
 suffices q : ∀ (l : List Prt) (n : Nat), l.Pairwise (fun x y => x.c < y.c) → (∀ x ∈ l, (n : Int) ≤ x.c ∧ x.c < 16) → n ≤ 16 → l.length + n ≤ 16 from by
  have := q l 0 h.1 (fun x hx => ⟨(h.2 x hx).1, by have := (h.2 x hx).2; omega⟩) (by omega)
  omega
 intro l
 induction l with
 | nil => intro n _ _ hn; simpa using hn
 | cons y l ih =>
  intro n hp hb hn
  rw [List.pairwise_cons] at hp
  have hy := hb y List.mem_cons_self
  have := ih (n + 1) hp.2 (fun z hz => ⟨by have := hp.1 z hz; have := hy.1; omega, (hb z (List.mem_cons_of_mem _ hz)).2⟩) (by omega)
  simp only [List.length_cons]
  omega
theorem okL_okC {ws : List Nat} {l : List Prt} (h : okL ws l) (hw : ws.length ≤ 16) : okC l := fun x hx => ⟨(h.2 x hx).1, by have := (h.2 x hx).2; omega⟩
def SD.get (s : SD) (i g comp : Int) : Prt × Int := if s.r.aliveB i g then (match (s.at i.toNat)[ix (s.at i.toNat) comp]? with
 | some p => (p, 0)
 | none => (Prt.zero, 7)) else (Prt.zero, 17)
def six (w : World) (b : Nat) (p : Prt) : World := (((((w.setCell ⟨b, 0, none⟩ (.int .i64 p.c)).setCell ⟨b, 1, none⟩ (.int .i64 p.v0)).setCell ⟨b, 2, none⟩ (.int .i64 p.v1)).setCell ⟨b, 3, none⟩ (.int .i64 p.v2)).setCell ⟨b, 4, none⟩ (.int .i64 p.v3)).setCell ⟨b, 5, none⟩ (.int .i64 p.t)
theorem six_set {w : World} {b : Nat} {q p : Prt} {e : TypeId} (h : w.heap[b]? = some (.cells q.arr e (0, 0))) : (six w b p).heap[b]? = some (.cells p.arr e (0, 0)) ∧ ∀ B, B ≤ b → Below B w (six w b p) := by
 have h1 := heap_setCell_same w b 0 _ e (.int .i64 p.c) h
 have h2 := heap_setCell_same _ b 1 _ e (.int .i64 p.v0) h1
 have h3 := heap_setCell_same _ b 2 _ e (.int .i64 p.v1) h2
 have h4 := heap_setCell_same _ b 3 _ e (.int .i64 p.v2) h3
 have h5 := heap_setCell_same _ b 4 _ e (.int .i64 p.v3) h4
 have h6 := heap_setCell_same _ b 5 _ e (.int .i64 p.t) h5
 refine ⟨h6, fun B hB => ?_⟩
 have c := fun (w : World) (j : Nat) (v : Value) => St.setCell (S := fun k => k = b) (a := w) (p := ⟨b, j, none⟩) v rfl
 have st : St (fun k => k = b) w (six w b p) := (((((c w 0 _).trans (c _ 1 _) fun _ _ q => q).trans (c _ 2 _) fun _ _ q => q).trans (c _ 3 _) fun _ _ q => q).trans (c _ 4 _) fun _ _ q => q).trans (c _ 5 _) fun _ _ q => q
 exact st.below (fun k hk => hk ▸ hB) (Nat.le_trans hB (Nat.le_of_lt (Array.getElem?_eq_some_iff.1 h).1))
theorem two_blk (W : World) (a b : Array Value) (e f : TypeId) : Below W.heap.size W ((W.alloc (.cells a e)).alloc (.cells b f)) ∧ ((W.alloc (.cells a e)).alloc (.cells b f)).heap[W.heap.size]? = some (.cells a e (0, 0)) ∧ ((W.alloc (.cells a e)).alloc (.cells b f)).heap[W.heap.size + 1]? = some (.cells b f (0, 0)) := by
 refine ⟨(bAl W _).alloc (by simp) _, (Below.heap_alloc _ _ _ (by simp)).trans (heap_alloc_new W _), ?_⟩
 have := heap_alloc_new (W.alloc (.cells a e)) (.cells b f)
 rw [World.size_alloc] at this
 exact this
set_option maxHeartbeats 1600000 in
set_option maxRecDepth 100000 in
theorem get_dead {B : Nat} {W : World} {ub : Nat} {x : SV} {s : SD} (h : Sb B W ub x s) (i g comp : Int) (ha : s.r.aliveB i g = false) :
  Calls Tryz.prog 39 #[.pointer (some ⟨ub, 0, none⟩), .agg #[.int .i64 i, .int .i64 g], .int .i64 comp] W fun e W' => e = .returned (.tuple #[Prt.zero.val, .int .i64 17]) ∧ Below W.heap.size W W' := by
 obtain ⟨b2, k1, k2⟩ := two_blk W #[.int .i64 i, .int .i64 g] Prt.zero.arr 43 47
 obtain ⟨W2, hW2⟩ : ∃ W2, W2 = (W.alloc (.cells #[.int .i64 i, .int .i64 g] 43)).alloc (.cells Prt.zero.arr 47) := ⟨_, rfl⟩
 rw [← hW2] at b2 k1 k2
 have HW2 := hid hW2
 unfold Prt.arr Prt.zero at HW2
 clear hW2
 have h2 := h.later b2
 have AL := hid (Ro.ralive_any (h2.later (Below.refl _ W2).drew).roll i g)
 rw [ha] at AL
 have c2 := h2.c2
 have e0 : W2.cell? ⟨W.heap.size, 0, none⟩ = some (.int .i64 i) := cell_blk k1 (j := 0) rfl
 have e1 : W2.cell? ⟨W.heap.size, 1, none⟩ = some (.int .i64 g) := cell_blk k1 (j := 1) rfl
 have B2 := hid b2
 clear h ha h2 k1 b2
 go_enter Tryz.func39, Tryz.ntmps39
 go_wp2_with fail
 rw [← HW2.out]
 go_region_held3 (fun W' => W'.cell? ⟨ub, 2, none⟩ = some (.pointer (some ⟨x.rb, 0, none⟩)) ∧ W'.cell? ⟨W.heap.size, 0, none⟩ = some (.int .i64 i) ∧ W'.cell? ⟨W.heap.size, 1, none⟩ = some (.int .i64 g)) (go_keep) (first | (go_at_call 41; refine AL.out.mono ?_; rintro e w3 ⟨rfl, hb3⟩; have d2 := At.seen (W := W2.drew) hb3 (Nat.le_refl _) c2; have f0 := At.seen (W := W2.drew) hb3 (Nat.le_refl _) e0; have f1 := At.seen (W := W2.drew) hb3 (Nat.le_refl _) e1))
 have k3 := blk_seen (W := W2.drew) hb3 (Nat.le_refl _) k2
 have B3 := hid (B2.out.trans (((Below.refl _ W2).drew.trans hb3).mono B2.out.size))
 obtain ⟨p0, p1, p2, p3, p4, p5⟩ := six_blk k3
 have fr := fun j => blk_free k3 j
 clear d2 f0 f1 hb3 AL c2 e0 e1 B2
 go_wp2_with fail
 obtain ⟨w4, hw4⟩ : ∃ w4, w4 = six w3 (W.heap.size + 1) Prt.zero := ⟨_, rfl⟩
 obtain ⟨k4, b4⟩ := six_set k3 (p := Prt.zero)
 rw [← hw4] at k4 b4
 unfold six Prt.zero at hw4
 dsimp only at hw4
 rw [← hw4]
 obtain ⟨p0, p1, p2, p3, p4, p5⟩ := six_blk k4
 simp only [Nat.zero_add] at p0 p1 p2 p3 p4 p5
 refine bodyPost_ret (v := .tuple #[Prt.zero.val, .int .i64 17]) (by simp [results, Tryz.results39, go_sem, p0, p1, p2, p3, p4, p5, Prt.val]) rfl ⟨rfl, B3.out.trans (b4 _ (by omega))⟩
end Rs
end Go.Proofs.YtnlcbheidiigaaaGreatDoor
