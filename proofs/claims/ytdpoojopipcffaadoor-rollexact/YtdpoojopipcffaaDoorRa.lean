/- A roll in memory: its places, its row of free ones, its map of those that are given. -/
import Derived.Test.YtdpoojopipcffaaDoorKp
import Derived.Maps.OwnSet
import Derived.DeepKeys4
namespace Go.Proofs.YtdpoojopipcffaaDoor
open Go.RowKit Go.Shelf Go.Maps
theorem Tryd.laidOut : laidOutB Tryd.prog = true := by kernel_rfl
theorem Tryd.size24 : 24 < Tryd.prog.types.size := of_decide_eq_true (by kernel_rfl)
theorem Tryd.wide24 : (match Tryd.prog.underlying 24 with | some (.array _ _) | some (.struct _) => true | _ => false) = true := by rw [Tryd.underlying24]
set_option maxRecDepth 100000 in
theorem keyed24 : Keyed Tryd.prog 24 := Keyed.of_law (deep_law_laid Tryd.laidOut (m := 2) (by omega) Tryd.size24 (by kernel_rfl) Tryd.wide24)
theorem zero63 (w : World) : (zeroValue 63).run Tryd.prog w = .ok (.agg #[]) w := by kernel_rfl
/-- An entity, as a value. -/
def entV (i g : Int) : Value := .agg #[.int .i64 i, .int .i64 g]
/-- An entity's key. -/
def kl (i g : Int) : Lit := .string (keyBytes [.int .i64 i, .int .i64 g])
def I64 (i : Int) : Prop := (Lit.int .i64 i).wf = true
theorem kl_key (i g : Int) : WideAt.IsKeyLit (kl i g) := trivial
theorem keyT24 : Tryd.prog.keyType 24 = true := by kernel_rfl
theorem size128 : Tryd.prog.types.size = 128 := by kernel_rfl
theorem keyS24 : ∃ d, Tryd.prog.types.size + 1 = d + 2 := ⟨127, congrArg (· + 1) size128⟩
theorem cells24 : Tryd.prog.cellsOf 24 = 2 := by kernel_rfl
theorem cells3 : Tryd.prog.cellsOf 3 = 1 := by kernel_rfl
theorem lits3 (d : Nat) (i : Int) (hi : I64 i) : Tryd.prog.keyLits (d + 1) 3 [.int .i64 i] = some [.int .i64 i] := by
  unfold Program.keyLits
  rw [Tryd.underlying3]
  exact if_pos ⟨rfl, hi⟩
theorem flat_lits (i g : Int) : [[Lit.int .i64 i], [Lit.int .i64 g]].flatten = [.int .i64 i, .int .i64 g] := rfl
theorem lits24 (d : Nat) (i g : Int) (hi : I64 i) (hg : I64 g) : Tryd.prog.keyLits (d + 2) 24 [.int .i64 i, .int .i64 g] = some [.int .i64 i, .int .i64 g] := by
  unfold Program.keyLits
  rw [Tryd.underlying24]
  refine (if_pos ⟨by rw [cells24]; rfl, by kernel_rfl⟩).trans ?_
  simp only [List.mapM_cons, List.mapM_nil, cells3, List.drop_zero, List.drop_succ_cons, List.take_succ_cons, List.take_zero, lits3 d i hi, lits3 d g hg]
  rfl
theorem key_ent (i g : Int) (hi : I64 i) (hg : I64 g) : keyOf Tryd.prog 24 (entV i g) = some (kl i g) := by
  obtain ⟨d, hd⟩ := keyS24
  unfold keyOf
  rw [Tryd.underlying24, hd]
  have hf : (entV i g).formed Tryd.prog 24 = true := by
    unfold entV Value.formed
    rw [Tryd.underlying24, cells24]
    rfl
  have hc : (entV i g).cells.toList = [.int .i64 i, .int .i64 g] := rfl
  refine (if_pos (by rw [keyT24, hf]; rfl)).trans ?_
  rw [hc, lits24 d i g hi hg]
  rfl
theorem ent_inj {i g i' g' : Int} (h : entV i g = entV i' g') : i = i' ∧ g = g' := by
  unfold entV at h
  simpa using h
theorem kl_inj {i g i' g' : Int} (hi : I64 i) (hg : I64 g) (hi' : I64 i') (hg' : I64 g') (h : kl i g = kl i' g') : i = i' ∧ g = g' :=
  ent_inj (keyed24.inj (key_ent i g hi hg) (h ▸ key_ent i' g' hi' hg'))
theorem I64_small {n : Int} (h0 : 0 ≤ n) (h1 : n ≤ 1000000) : I64 n := by
  unfold I64 Lit.wf
  simp [IntKind.min, IntKind.max, IntKind.signed, IntKind.bits]
  omega
/-- Places: their generations, and the row of the free ones. -/
structure RS where
  gens : List Nat
  free : List Nat
def RS.ok (r : RS) : Prop := r.free.Nodup ∧ ∀ i ∈ r.free, i < r.gens.length
/-- Whether an entity is alive. -/
def RS.aliveB (r : RS) (i g : Int) : Bool := decide (0 ≤ i ∧ 0 ≤ g ∧ i.toNat ∉ r.free ∧ r.gens[i.toNat]? = some g.toNat)
theorem RS.aliveB_iff (r : RS) (i g : Int) : r.aliveB i g = true ↔ 0 ≤ i ∧ 0 ≤ g ∧ i.toNat ∉ r.free ∧ r.gens[i.toNat]? = some g.toNat := by unfold RS.aliveB; exact decide_eq_true_iff
/-- The place i is given, in its next generation. -/
def RS.took (r : RS) (i : Nat) : RS := ⟨r.gens.set i (r.gens.getD i 0 + 1), r.free.dropLast⟩
def RS.freed (r : RS) (i : Nat) : RS := ⟨r.gens, r.free ++ [i]⟩
/-- What the map of those that are given says. -/
def Holds (D : DataW Unit) (r : RS) : Prop := (∀ i g, I64 i → I64 g → Maps.has D (kl i g) = r.aliveB i g) ∧ Maps.size D + r.free.length = r.gens.length
theorem free_split {r : RS} (h : r.free ≠ []) : ∃ f i, r.free = f ++ [i] := ⟨r.free.dropLast, r.free.getLast h, (List.dropLast_concat_getLast h).symm⟩
theorem RS.ok.took {r : RS} {f : List Nat} {i : Nat} (h : r.ok) (hf : r.free = f ++ [i]) : (r.took i).ok := by
  obtain ⟨h1, h2⟩ := h
  rw [hf] at h1 h2
  unfold RS.took RS.ok
  rw [hf, List.dropLast_concat]
  refine ⟨(List.nodup_append.1 h1).1, fun j hj => ?_⟩
  simpa using h2 j (List.mem_append_left _ hj)
theorem RS.took_alive {r : RS} {f : List Nat} {i : Nat} (h : r.ok) (hf : r.free = f ++ [i]) (j g : Int) : (r.took i).aliveB j g = if j = (i : Int) ∧ g = ((r.gens.getD i 0 + 1 : Nat) : Int) then true else r.aliveB j g := by
  obtain ⟨h1, h2⟩ := h
  rw [hf] at h1 h2
  have hi := h2 i (by simp)
  have hn : i ∉ f := fun hm => by
    have := (List.nodup_append.1 h1).2.2 i hm i (by simp)
    exact this rfl
  split
  · rename_i hc
    obtain ⟨rfl, rfl⟩ := hc
    rw [RS.aliveB_iff]
    refine ⟨by omega, by omega, ?_, ?_⟩
    · simp only [RS.took, hf, List.dropLast_concat, Int.toNat_natCast]; exact hn
    · simp only [RS.took, Int.toNat_natCast]
      rw [List.getElem?_set_self hi]
  · rename_i hc
    rw [Bool.eq_iff_iff, RS.aliveB_iff, RS.aliveB_iff]
    simp only [RS.took, hf, List.dropLast_concat]
    by_cases hj : j.toNat = i
    · rw [hj]
      constructor
      · rintro ⟨a, b, c, d⟩
        rw [List.getElem?_set_self hi] at d
        simp only [Option.some.injEq] at d
        exact absurd ⟨by omega, by omega⟩ hc
      · rintro ⟨a, b, c, d⟩
        exact absurd (by simp) c
    · rw [List.getElem?_set_ne (fun e => hj e.symm)]
      simp only [List.mem_append, List.mem_singleton, not_or]
      constructor
      · rintro ⟨a, b, c, d⟩; exact ⟨a, b, ⟨c, hj⟩, d⟩
      · rintro ⟨a, b, ⟨c, _⟩, d⟩; exact ⟨a, b, c, d⟩
theorem RS.freed_ok {r : RS} {i g : Int} (h : r.ok) (ha : r.aliveB i g = true) : (r.freed i.toNat).ok := by
  obtain ⟨a, b, c, d⟩ := (RS.aliveB_iff r i g).1 ha
  refine ⟨?_, ?_⟩
  · unfold RS.freed
    rw [List.nodup_append]
    exact ⟨h.1, by simp, fun x hx y hy e => by simp at hy; subst hy; exact c (e ▸ hx)⟩
  · intro j hj
    rcases List.mem_append.1 hj with hj | hj
    · exact h.2 j hj
    · simp at hj; subst hj; exact (List.getElem?_eq_some_iff.1 d).1
theorem RS.freed_alive {r : RS} {i g : Int} (ha : r.aliveB i g = true) (j k : Int) : (r.freed i.toNat).aliveB j k = if j = i ∧ k = g then false else r.aliveB j k := by
  obtain ⟨a, b, c, d⟩ := (RS.aliveB_iff r i g).1 ha
  split
  · rename_i hc
    obtain ⟨rfl, rfl⟩ := hc
    rw [Bool.eq_false_iff]
    intro h
    obtain ⟨_, _, h3, _⟩ := (RS.aliveB_iff _ _ _).1 h
    exact h3 (by simp [RS.freed])
  · rename_i hc
    rw [Bool.eq_iff_iff, RS.aliveB_iff, RS.aliveB_iff]
    simp only [RS.freed, List.mem_append, List.mem_singleton, not_or]
    constructor
    · rintro ⟨a', b', ⟨c', _⟩, d'⟩; exact ⟨a', b', c', d'⟩
    · rintro ⟨a', b', c', d'⟩
      refine ⟨a', b', ⟨c', fun e => ?_⟩, d'⟩
      rw [e, d] at d'
      simp only [Option.some.injEq] at d'
      exact hc ⟨by omega, by omega⟩
theorem Holds.took {D : DataW Unit} {r : RS} {f : List Nat} {i : Nat} (hD : Tidy D) (h : Holds D r) (hok : r.ok) (hf : r.free = f ++ [i]) (h1 : I64 (i : Int)) (h2 : I64 ((r.gens.getD i 0 + 1 : Nat) : Int)) (u : DataW Unit) : Holds (D.put (kl i ((r.gens.getD i 0 + 1 : Nat) : Int)) u) (r.took i) := by
  refine ⟨fun j g hj hg => ?_, ?_⟩
  · rw [RS.took_alive hok hf]
    split
    · rename_i hc
      obtain ⟨rfl, rfl⟩ := hc
      exact Maps.has_put_same hD.isMap (kl_key _ _) u
    · rename_i hc
      rw [Maps.has_put_other (fun e => hc (kl_inj hj hg h1 h2 e)) u]
      exact h.1 j g hj hg
  · have hn : r.aliveB (i : Int) ((r.gens.getD i 0 + 1 : Nat) : Int) = false := by
      rw [Bool.eq_false_iff]
      intro ha
      obtain ⟨_, _, c, _⟩ := (RS.aliveB_iff _ _ _).1 ha
      exact c (by simp [hf])
    rw [Maps.size_put hD, h.1 _ _ h1 h2, hn]
    have := h.2
    simp only [RS.took, hf, List.dropLast_concat, List.length_set, List.length_append, List.length_singleton] at this ⊢
    simp
    omega
theorem Holds.freed {D : DataW Unit} {r : RS} {i g : Int} (hD : Tidy D) (h : Holds D r) (ha : r.aliveB i g = true) (h1 : I64 i) (h2 : I64 g) : Holds (D.del (kl i g)) (r.freed i.toNat) := by
  refine ⟨fun j k hj hk => ?_, ?_⟩
  · rw [RS.freed_alive ha]
    split
    · rename_i hc
      obtain ⟨rfl, rfl⟩ := hc
      exact Maps.has_del_same
    · rename_i hc
      rw [Maps.has_del_other (fun e => hc (kl_inj hj hk h1 h2 e))]
      exact h.1 j k hj hk
  · have := Maps.size_del (k := kl i g) hD
    rw [h.1 _ _ h1 h2, ha] at this
    have h3 := h.2
    simp only [RS.freed, List.length_append, List.length_singleton] at this ⊢
    simp at this
    omega
end Go.Proofs.YtdpoojopipcffaaDoor
