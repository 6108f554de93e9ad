/- Badges: List. -/
import Derived.Test.YtiebbedpjogjfaaDoorBdBj
import Derived.Test.YtiebbedpjogjfaaDoorBdLay
namespace Go.Proofs.YtiebbedpjogjfaaDoor.Bd
open Go.RowKit Go.Maps Go.Sort Go.Shelf
theorem sortsA (m : Nat) : AnyZI.SortsIn Tryd.prog Tryd.sortedA_ren Fence.wide m :=
  ⟨fun blk off cap ss W hH hblk hsz => callsIn_wide.2 (AnyM.slices_Sort_int Tryd.sortA blk off cap ss W hH hblk hsz),
   fun p cap W => callsIn_wide.2 (AnyM.slices_Sort_int_none Tryd.sortA p cap W)⟩
def ids (l : Prs) : List Int := l.map fun x => x.1
theorem keys_perm {W : World} {ob nn : Nat} {D : DataW Unit} {l : Prs} {n : Int} (hown : W.ownsMap Tryd.prog 3 entElem ob nn D) (hH : H1 D l) (hok : okP n l) : (ids l).Perm (intKeys D) := by
  have hwf := intKeys_wf hown Tryd.underlying3
  obtain ⟨es, hD, hpw, _⟩ := hown.entries keyed3
  obtain ⟨es', hD', hk⟩ := hown.keysOf
  obtain rfl : es = es' := by rw [hD] at hD'; simpa using hD'
  subst hD
  refine perm_intKeys hpw (fun p hp => ?_) ?_ fun x => ?_
  · obtain ⟨v, hv⟩ := hk p hp
    obtain ⟨x, _, e, _⟩ := Maps.keyOf_int_inv Tryd.underlying3 hv
    exact ⟨x, e⟩
  · unfold ids
    rw [List.Nodup, List.pairwise_map]
    exact hok.rise.imp fun q e => by omega
  · constructor
    · intro hx
      obtain ⟨y, hy, rfl⟩ := List.mem_map.1 hx
      have h1 := hok.low y hy
      have h2 := hok.next
      rw [(hH.1 y.1 (I64_mid (by omega) (by omega))).1, (hok.who y.1 y.2).2 hy]
      rfl
    · intro hx
      have hin : x ∈ intKeys (DataW.map es) := by
        rw [Maps.has_eq, List.any_eq_true] at hx
        obtain ⟨p, hp, hq⟩ := hx
        obtain ⟨v, hv⟩ := hk p hp
        obtain ⟨z, _, e, _⟩ := Maps.keyOf_int_inv Tryd.underlying3 hv
        rw [e, same_key] at hq
        have := of_decide_eq_true hq
        exact List.mem_map.2 ⟨p, hp, by rw [e]; exact this⟩
      have hi := hwf x hin
      have q := (hH.1 x hi).1
      rw [hx] at q
      obtain ⟨e, he⟩ := Option.isSome_iff_exists.1 q.symm
      exact List.mem_map.2 ⟨(x, e), (hok.who x e).1 he, rfl⟩
theorem ids_sorted {n : Int} {l : Prs} (hok : okP n l) : (ids l).mergeSort leI = ids l := by
  refine List.mergeSort_of_pairwise ?_
  unfold ids
  rw [List.pairwise_map]
  exact hok.rise.imp fun q => by simp; omega
set_option maxHeartbeats 1600000 in
set_option maxRecDepth 100000 in
theorem list_any {B : Nat} {W : World} {bb ob nb : Nat} {n : Int} {l : Prs} (h : Bg B W bb ob nb n l) :
    Calls Tryd.prog 23 #[.pointer (some ⟨bb, 0, none⟩)] W fun e W' => ∃ v, e = .returned v ∧ W'.ownsRow W.heap.size 3 1 v l.length ((ids l).map encZ) ∧ Below W.heap.size W W' := by
  have c0 := h.c0
  obtain ⟨D0, hown, hH⟩ := h.m1
  have hp := keys_perm hown hH h.ok
  have hso := ids_sorted h.ok
  have hfew := h.ok.few
  have hsz : Maps.size D0 = l.length := hH.2
  have hmax : Maps.size D0 ≤ maxLen := by unfold maxLen; omega
  have hbytes : Maps.size D0 * 8 ≤ 140737488355328 := by omega
  obtain ⟨nn, hnn⟩ : ∃ nn, nn = Maps.size D0 := ⟨_, rfl⟩
  have hown' : W.ownsMap Tryd.prog 3 entElem ob nn D0 := by rw [hnn]; exact hown
  have HP := hid hp
  have HS := hid hso
  clear h hH hown hp hso
  refine (callsIn_wide (n := 6)).1 ?_
  have hbl := hown'.lt
  have hseq : SeqGives Fence.wide 2 Tryd.prog 44 #[.pointer (some ⟨W.heap.size, 0, none⟩)] encZ (fun ss => ss.Perm (intKeys D0)) (Maps.size D0) (W.alloc (.cells #[.map (some ob)] 60)) :=
    AnyZI.keys_gives (ρ := Tryd.keysA_ren) { Tryd.keysA with } Fence.wide _ trivial rfl (by omega) W.heap.size ob nn D0 _ (by simp) (by simp) (by
      obtain ⟨es, clock, hb, Ft, hs, hD⟩ := hown'
      exact ⟨es, clock, (Below.heap_alloc _ _ ob hbl).trans hb, Ft, hs, hD⟩)
  have cK : ∀ mb W, CallsIn Fence.wide 5 Tryd.prog 35 #[.map mb] W fun e w' => e = .returned (.func (.func 44) #[] #[.pointer (some ⟨W.heap.size, 0, none⟩)]) ∧ w' = W.alloc (.cells #[.map mb] 60) := fun mb W => AnyZI.keys_in Tryd.keysA Fence.wide 5 trivial rfl mb W
  have cS := AnyZI.sorted_in Tryd.sortedA Fence.wide 5 trivial trivial trivial trivial rfl (by omega) (sortsA _) (enters_of Tryd.func43 (by kernel_rfl) rfl) 44 #[.pointer (some ⟨W.heap.size, 0, none⟩)] trivial (enters_of Tryd.func44 (by kernel_rfl) rfl) _ _ hmax hbytes _ hseq
  change CallsIn _ _ Tryd.prog 34 _ _ _ at cS
  have hfK : Fence.wide.fn 35 := trivial
  have hfS : Fence.wide.fn 34 := trivial
  clear hown' hseq hnn hmax hbytes
  refine callsIn_of_wp Tryd.func23 rfl trivial ?_ rfl
  simp only [Tryd.ntmps23, List.size_toArray, List.length_cons, List.length_nil, Nat.reduceAdd, Nat.reduceSub, Array.replicate_succ, Array.replicate_zero, List.push_toArray, List.append_toArray, List.nil_append, List.cons_append]
  gi_wp2_with (first
    | (gi_at_call 35; refine (cK _ _).mono ?_; rintro e w' ⟨rfl, rfl⟩)
    | (gi_at_call 34; refine cS.mono ?_; rintro e w' ⟨v, ss, rfl, hS, hrow, hnil, hb⟩))
  go_ret
  have e1 : ss.mergeSort (fun x y => decide (x ≤ y)) = ids l := (mergeSort_of_perm_i (hS.trans HP.out.symm)).trans HS.out
  have e2 : ss.length = l.length := by have := (hS.trans HP.out.symm).length_eq; simpa [ids] using this
  rw [e1, e2] at hrow
  exact ⟨v, rfl, ownsRow_base_a hrow (by simp), ((Below.refl _ W).alloc (Nat.le_refl _) _).trans (hb.mono (by simp))⟩
set_option maxHeartbeats 800000 in
theorem list_nil (W : World) : Calls Tryd.prog 23 #[.pointer none] W fun e W' => e = .returned (.slice none 0 0) ∧ W' = W := by
  go_enter Tryd.func23, Tryd.ntmps23
  go_wp2_with fail
  go_ret
  exact ⟨rfl, rfl⟩
end Go.Proofs.YtiebbedpjogjfaaDoor.Bd
