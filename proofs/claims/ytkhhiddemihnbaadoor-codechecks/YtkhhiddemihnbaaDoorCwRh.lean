/- CodeChecks, plainly: leaves in memory; both answers are the same. -/
import Derived.Test.YtkhhiddemihnbaaDoorCwRe
import Derived.Test.YtkhhiddemihnbaaDoorCwDc
namespace Go.Proofs.YtkhhiddemihnbaaDoor.Cw
open Go.RowKit Go.Shelf
theorem leafCells_at : ∀ (ls : Leaves) (k : Nat) (p : List ByteArray × Nat), ls[k]? = some p → (leafCells ls)[k * 2]? = some (.string (joinB p.1)) ∧ (leafCells ls)[k * 2 + 1]? = some (.int .i64 (p.2 : Int))
  | [], _, _, h => by simp at h
  | q :: ls, 0, p, h => by simp at h; subst h; exact ⟨rfl, rfl⟩
  | q :: ls, k + 1, p, h => by
    have := leafCells_at ls k p (by simpa using h)
    rw [show (k + 1) * 2 = k * 2 + 1 + 1 by omega]
    exact this
def LOk (p : List ByteArray × Nat) : Prop := (joinB p.1).size ≤ 100000 ∧ p.1.length ≤ 1000
theorem ok_code (k : Nat) : LOk ([wC], k) := ⟨by show (joinB [wC]).size ≤ _; rw [joinB_one]; show 4 ≤ 100000; decide, by simp⟩
theorem ok_at4 (i : Nat) (p : ByteArray) (ns : List Nat) (hi : i < 100) (hp : p.size ≤ 10) : ∀ q ∈ at4 i p ns, LOk q := by
  intro q hq
  obtain ⟨k, -, rfl⟩ := List.mem_map.1 hq
  refine ⟨?_, by simp⟩
  show (joinB [wC, dig i, p]).size ≤ _
  have e : (⟨#[47]⟩ : ByteArray).size = 1 := rfl
  have e4 : wC.size = 4 := rfl
  have := dig_size i hi
  rw [joinB_more _ _ (by simp), joinB_more _ _ (by simp), joinB_one, ByteArray.size_append, ByteArray.size_append, ByteArray.size_append, ByteArray.size_append, e, e4]
  omega
theorem ok_ins (cs : List Cmp) (rs : List Rsc) (m i : Nat) (x : Ins) (hi : i < 100) : ∀ q ∈ insL cs rs m i x, LOk q := by
  intro q hq
  unfold insL at hq
  split at hq
  · rcases List.mem_append.1 hq with h | h
    · exact ok_at4 i wA _ hi (show 1 ≤ 10 by decide) q h
    · exact ok_at4 i wB _ hi (show 1 ≤ 10 by decide) q h
  · exact ok_at4 i wO _ hi (show 2 ≤ 10 by decide) q hq
theorem ok_insT (cs : List Cmp) (rs : List Rsc) (l : List Ins) : ∀ k, k ≤ 100 → ∀ q ∈ insT cs rs l k, LOk q
  | 0, _, q, h => by simp [insT] at h
  | k + 1, hk, q, h => by
    unfold insT at h
    rcases List.mem_append.1 h with h | h
    · exact ok_insT cs rs l k (by omega) q h
    · cases hx : l[k]? with
      | none => rw [hx] at h; simp at h
      | some x => rw [hx] at h; exact ok_ins cs rs _ k x (by omega) q h
theorem chk_ok {cs : List Cmp} {rs : List Rsc} {l : List Ins} {L : Leaves} (hl : l.length ≤ 100) (h : ChkR cs rs l L) : ∀ q ∈ L, LOk q := by
  intro q hq
  rcases h with ⟨-, rfl⟩ | ⟨-, ⟨-, rfl⟩ | ⟨-, rfl⟩⟩
  · unfold errsL longL at hq
    rcases List.mem_append.1 hq with h | h
    · split at h
      · simp at h
        subst h
        exact ok_code 4
      · simp at h
    · exact ok_insT cs rs l l.length hl q h
  · simp at hq
  · simp at hq
    subst hq
    exact ok_code 12
theorem chk_one {cs : List Cmp} {rs : List Rsc} {l : List Ins} {L M : Leaves} (h : ChkR cs rs l L) (g : ChkR cs rs l M) : L = M := by
  rcases h with ⟨h1, rfl⟩ | ⟨h1, ⟨h2, rfl⟩ | ⟨h2, rfl⟩⟩ <;> rcases g with ⟨g1, rfl⟩ | ⟨g1, ⟨g2, rfl⟩ | ⟨g2, rfl⟩⟩
  · rfl
  · exact absurd g1 h1
  · exact absurd g1 h1
  · exact absurd h1 g1
  · rfl
  · exact absurd h2 g2
  · exact absurd h1 g1
  · exact absurd g2 h2
  · rfl
/-- What both kinds of Depths answer. -/
def Both (W : World) (r b r2 b2 : Value) : Prop := ∃ q : Bool, b = .bool q ∧ b2 = .bool q ∧ ∃ d : List Int, d.length ≤ 1000 ∧ IRow W r d ∧ IRow W r2 d
theorem both_of {l : List Ins} {B : Nat} {W W' : World} {r b r2 b2 : Value} (hl : l.length ≤ 200) (h : DepP l B W r b) (hb : Below W.heap.size W W') (g : RDep l W' r2 b2) : Both W' r b r2 b2 := by
  rcases h with ⟨nw, db, d, rfl, rfl, lb, hbk, -⟩ | ⟨rfl, rfl, nf⟩ <;> rcases g with ⟨nw2, d2, rfl, lb2, hr2⟩ | ⟨rfl, rfl, nf2⟩
  · obtain rfl := lb.uniq lb2
    exact ⟨true, rfl, rfl, d, by have := lb.len; omega, (irow_blk hbk).later hb, hr2⟩
  · exact absurd (lb.fine nw) nf2
  · exact absurd (lb2.fine nw2) nf
  · exact ⟨false, rfl, rfl, [], by simp, ⟨none, 0, rfl, .inl rfl⟩, ⟨none, 0, rfl, .inl rfl⟩⟩
end Go.Proofs.YtkhhiddemihnbaaDoor.Cw
