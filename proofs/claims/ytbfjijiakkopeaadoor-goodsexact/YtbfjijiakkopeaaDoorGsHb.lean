/- The document's goods: Set, Put. -/
import Derived.Test.YtbfjijiakkopeaaDoorGsHa
namespace Go.Proofs.YtbfjijiakkopeaaDoor.Gs
open Go.RowKit Go.Shelf Go.Maps
/-- append of no row. -/
theorem run_append_nothing {w : World} (base : Nat) (t ty e : TypeId) (i : TypeInfo) (size : Nat) (ht : Tryd.prog.underlying t = some (.slice e)) (hi : Tryd.prog.info? e = some i)
    (v : Value) (n c : Nat) (xs : List Value) (hown : w.ownsRow base e size v n xs) :
    (Builtin.append_ #[t, t] ty #[v, .slice none 0 c]).run Tryd.prog w = .ok v w := by
  rcases hown.2 with ⟨rfl, rfl⟩ | ⟨g, cap, cur, rfl, _, _, hnc, _⟩
  · simp [Builtin.append_, run_underlying ht, sizeOf, typeInfo, hi, Builtin.lenOf, Builtin.firstCells]
  · simp [Builtin.append_, run_underlying ht, sizeOf, typeInfo, hi, Builtin.lenOf, Builtin.firstCells, hnc, storeCells]
/-- append of a row of numbers onto an empty one. -/
theorem run_copy {W : World} {sv : Value} {ns : List Int} (hsrc : LRow W sv ns) (hl : ns.length ≤ 1000) (ty : TypeId) :
    ∃ v' w', (Builtin.append_ #[39, 39] ty #[.slice (some ⟨W.heap.size, 0, none⟩) 0 0, sv]).run Tryd.prog (W.alloc (.cells #[] 3)) = .ok v' w' ∧ w'.ownsRow W.heap.size 3 1 v' ns.length (ns.map gz) ∧ Below W.heap.size W w' := by
  obtain ⟨i0, hi, hz0, hz1, hz2⟩ := info_parts infoInt
  have O : (W.alloc (.cells #[] 3)).ownsRow W.heap.size 3 1 (.slice (some ⟨W.heap.size, 0, none⟩) 0 0) 0 [] := World.ownsRow_lit W #[] 0 (Nat.le_refl _) (by unfold maxLen; omega) rfl
  have hb := bAl W (.cells #[] 3)
  have hz : W.heap.size ≤ (W.alloc (.cells #[] 3)).heap.size := by simp
  obtain ⟨a, c, rfl, h2⟩ := hsrc.later hb
  have C : ∀ ad, a = some ad → (∀ (j : Nat) u, (ns.map gz)[j]? = some u → (W.alloc (.cells #[] 3)).cell? (ad.add j) = some u) → ∃ v' w', (Builtin.append_ #[39, 39] ty #[.slice (some ⟨W.heap.size, 0, none⟩) 0 0, .slice a ns.length c]).run Tryd.prog (W.alloc (.cells #[] 3)) = .ok v' w' ∧ w'.ownsRow W.heap.size 3 1 v' ns.length (ns.map gz) ∧ Below W.heap.size W w' := by
    rintro ad rfl hcs
    obtain ⟨v', w', hr, h8, h9, -, -⟩ := run_append_own_at (P := Tryd.prog) (W.alloc (.cells #[] 3)) W.heap.size 39 ty 3 i0 (.int .i64 0) 1 8 Tryd.underlying39 hi hz0 hz1 hz2 rfl (by decide) _ 0 [] O ad ns.length c (ns.map gz) (by simp) hcs (by intro u hu; obtain ⟨x, _, rfl⟩ := List.mem_map.1 hu; rfl) (by unfold maxLen; omega) (by omega) hz
    rw [Nat.zero_add, List.nil_append] at h8
    refine ⟨v', w', hr, h8, hb.trans ((Below.refl _ _).grown h9 hz (fun k hk => own_block O hk))⟩
  rcases h2 with rfl | ⟨b, o, rfl, hcs⟩
  · cases a with
    | some ad => exact C ad rfl (fun j u hu => by simp at hu)
    | none =>
      exact ⟨_, _, run_append_nothing W.heap.size 39 ty 3 i0 1 Tryd.underlying39 hi _ 0 c [] O, O, hb⟩
  · refine C _ rfl fun j u hu => ?_
    rw [List.getElem?_map, Option.map_eq_some_iff] at hu
    obtain ⟨x, hx, rfl⟩ := hu
    have : (⟨b, o, none⟩ : Addr).add j = ⟨b, o + j, none⟩ := by unfold Addr.add; split <;> simp_all
    rw [this]
    exact hcs j x hx
theorem wpList_copy {ops : Array Oper} {rest : List Oper} {o : Oper} {a : Act} {Q : Exit → Act → World → Prop} (hgd : o.guard = none) (s x : Operand)
    (ho : o.op = .call { callee := .builtin .append, args := #[s, x], argTypes := #[39, 39] }) {W : World} {sv : Value} {ns : List Int} (hsrc : LRow W sv ns) (hl : ns.length ≤ 1000)
    {ub : Nat} {cs : Array Value} {uv : Value} (hbox : W.heap[ub]? = some (.cells cs 53 (0, 0))) (hcs : cs[2]? = some uv)
    (hs : a.eval s = .slice (some ⟨W.heap.size, 0, none⟩) 0 0) (hx : a.eval x = sv)
    (h : ∀ a1 c1 w', Hid (w'.ownsRow W.heap.size 3 1 (.slice a1 ns.length c1) ns.length (ns.map gz)) → Hid (Below W.heap.size W w') → w'.cell? ⟨ub, 2, none⟩ = some uv → w'.frozen? ⟨ub, 2, none⟩ = false → wpList Tryd.prog ops Q rest (a.put o.dst (.slice a1 ns.length c1)) w') :
    wpList Tryd.prog ops Q (o :: rest) a (W.alloc (.cells #[] 3)) := by
  refine wpList_plain hgd fun K hK => ?_
  obtain ⟨v', w', hr, h2, h3⟩ := run_copy hsrc hl o.type
  obtain ⟨a1, c1, rfl⟩ := own_slice h2
  have hb := blk_seen h3 (Nat.le_refl _) hbox
  unfold Oper.wp execOp
  simp only [ho, resolve, invoke, builtin, Sem.run_bind, Sem.run_pure, Result.andThen_ok, List.map_toArray, List.map_cons, List.map_nil, hs, hx, hr]
  exact hK _ _ (h a1 c1 w' h2 h3 (cell_blk hb hcs) (blk_free hb 2))
section
variable {B : Nat} {W W' : World} {ub : Nat} {va vb uv : Value} {l : List Int} {n : Nat}
theorem Ru.put {g c k : Nat} (h : Ru B W ub va vb (.slice (some ⟨g, 0, none⟩) l.length c) l n) (x : Int) : Ru B (W.setCell ⟨g, k, none⟩ (.int .i64 x)) ub va vb (.slice (some ⟨g, 0, none⟩) l.length c) (l.set k x) n ∧ St (fun q => q = g) W (W.setCell ⟨g, k, none⟩ (.int .i64 x)) := by
  obtain ⟨r1, -⟩ := h.row.stored k (.int .i64 x)
  have s : St (fun q => q = g) W (W.setCell ⟨g, k, none⟩ (.int .i64 x)) := St.setCell _ rfl
  refine ⟨⟨s.at h.box (h.ne_row (k := g) rfl).symm, ?_, h.low, by simpa using h.few⟩, s⟩
  rw [List.map_set, List.length_set]
  exact r1
set_option maxHeartbeats 1600000 in
set_option maxRecDepth 100000 in
theorem rset_in (h : Ru B W ub va vb uv l n) (hB : B ≤ W.heap.size) (hn : n ≤ 1000000) (k : Nat) (x y : Int) (hk : l[k]? = some y) :
    Calls Tryd.prog 12 #[.pointer (some ⟨ub, 0, none⟩), .int .i64 (k : Int), .int .i64 x] W fun e W' => e = .returned (.tuple #[.int .i64 y, .int .i64 0]) ∧ (∃ uv', Ru B W' ub va vb uv' (l.set k x) (n + 1) ∧ ∀ q, uv'.ownBlock = some q → W.heap.size ≤ q) ∧ St (fun q => q = ub) W W' := by
  have C := hid (rget_any h (k : Int))
  rw [numAt_nat hk] at C
  have H := hid h
  have hlt := (List.getElem?_eq_some_iff.1 hk).1
  have h1 : (k : Int) < (l.length : Int) := by omega
  have c2 := h.c2
  have HS := hid (own_lrow h.row)
  have h10 : l.length ≤ 1000 := by have := h.few; omega
  have hlu := (h.lt ub (.inl rfl)).2
  have hnu : ¬ ub = W.heap.size := by omega
  obtain ⟨ua, uc, rfl⟩ := h.slice
  have HK := hid hk
  have HB := hid hB
  clear h hk hB
  go_enter Tryd.func12, Tryd.ntmps12
  go_wp2_with fail
  refine C.out.mono ?_
  rintro e w' ⟨rfl, hq⟩
  obtain rfl := hq.symm
  clear hq C
  go_upto_region 5 with (at_builtin; refine wpList_copy rfl (.tmp 19) (.tmp 23) rfl HS.out h10 H.out.box rfl rfl rfl ?_; intro a1 c1 w1 ow bw x1 f1)
  obtain ⟨g1, rfl, hg1, hg2⟩ := own_some ow.out (by omega)
  obtain ⟨r3, s3⟩ := H.out.renew bw.out ow.out H.out.few HB.out
  obtain ⟨w3, hw3⟩ : ∃ w3, w3 = w1.setCell ⟨ub, 2, none⟩ (.slice (some ⟨g1, 0, none⟩) l.length c1) := ⟨_, rfl⟩
  rw [← hw3] at r3 s3 ⊢
  have d2 := r3.c2
  obtain ⟨g', c', e', d3⟩ := r3.at HK.out
  obtain ⟨rfl, rfl⟩ : g1 = g' ∧ c1 = c' := by simpa using e'
  have f3 : w3.frozen? ⟨g1, k, none⟩ = false := r3.row.frozenAt k
  obtain ⟨r4, s4⟩ := r3.put (k := k) x
  obtain ⟨w4, hw4⟩ : ∃ w4, w4 = w3.setCell ⟨g1, k, none⟩ (.int .i64 x) := ⟨_, rfl⟩
  rw [← hw4] at r4 s4
  have d4 := r4.c3
  have f4 := blk_free r4.box 3
  obtain ⟨r5, s5⟩ := r4.count (n + 1)
  have FIN : Hid ((∃ uv', Ru B (w4.setCell ⟨ub, 3, none⟩ (.int .i64 ((n + 1 : Nat) : Int))) ub va vb uv' (l.set k x) (n + 1) ∧ ∀ q, uv'.ownBlock = some q → W.heap.size ≤ q) ∧ St (fun q => q = ub) W (w4.setCell ⟨ub, 3, none⟩ (.int .i64 ((n + 1 : Nat) : Int)))) := by
    refine ⟨⟨_, r5, fun q hq => ?_⟩, (s3.trans s4 fun q hq e => by omega).trans s5 fun _ _ q => q⟩
    obtain rfl : g1 = q := by simpa [Value.ownBlock] using hq
    exact hg1
  have HW4 := hid hw4
  have hni : (n : Int) ≤ 1000000 := by omega
  clear ow bw x1 f1 r3 s3 hw3 e' r4 s4 hw4 r5 s5 hg1 hg2 hlt c2 hlu hnu
  go_upto_region 6 with fail
  rw [← HW4.out]
  go_wp2_with fail
  go_ret2
  exact ⟨rfl, FIN.out⟩
set_option maxHeartbeats 1600000 in
set_option maxRecDepth 100000 in
theorem rput_bad (h : Ru B W ub va vb uv l n) (a : Option Addr) (m c : Nat) (hne : m ≠ l.length) :
    Calls Tryd.prog 17 #[.pointer (some ⟨ub, 0, none⟩), .slice a m c] W fun e W' => e = .returned (.int .i64 1) ∧ W' = W := by
  obtain ⟨ua, uc, rfl⟩ := h.slice
  have c2 := h.c2
  have hni : ¬ (m : Int) = (l.length : Int) := by omega
  clear h
  go_enter Tryd.func17, Tryd.ntmps17
  go_wp2_with fail
  go_ret
  exact ⟨rfl, rfl⟩
end
end Go.Proofs.YtbfjijiakkopeaaDoor.Gs
