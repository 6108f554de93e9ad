/- Contracts of strand's writer: write, groups, fold. -/
import Derived.Test.YthngdaeiopgigaaDoorWa
import Derived.Deep.RegionWith
import Derived.Maps.AppendAt
namespace Go.Proofs.YthngdaeiopgigaaDoor
open Go.ChangeShapes Go.WideShapes Go.ChangeAt Go.RowKit

def WS.write (aL : Addr) (s : ByteArray) (xs : List UInt8) : WS → WS
  | .ok m l => if m < l.length + xs.length then .bad s aL else .ok m (l ++ xs)
  | .bad s a => .bad s a
def WS.len : WS → Nat | .ok _ l => l.length | .bad _ _ => 0
def WS.most : WS → Nat | .ok m _ => m | .bad _ _ => 0
theorem Tryd.info5 : (Tryd.prog.info? 5).map (fun i => (i.zero, i.size, i.bytes)) = some (some (.int .u8 0), 1, 1) := by kernel_rfl

theorem own_shape {w : World} {v : Value} {n : Nat} {xs : List Value} {e : TypeId} (h : w.ownsRow 0 e 1 v n xs) (hv : v ≠ .slice none 0 0) : ∃ g cap cur, v = .slice (some ⟨g, 0, none⟩) n cap ∧ w.heap[g]? = some (.cells cur e (0, 0)) ∧ cur.toList.take n = xs ∧ n ≤ cap ∧ cap ≤ maxLen ∧ cur.size = cap := by
  rcases h.2 with ⟨h1, _⟩ | ⟨g, cap, cur, h1, _, h2, h3, h4, h5, h6⟩
  · exact absurd h1 hv
  · exact ⟨g, cap, cur, h1, h2, by simpa using h6, h3, h4, by simpa using h5⟩
theorem own_cells {w : World} {g n : Nat} {cur : Array Value} {xs : List Value} {e : TypeId} (h : w.heap[g]? = some (.cells cur e (0, 0))) (ht : cur.toList.take n = xs) : ∀ j u, xs[j]? = some u → w.cell? ((⟨g, 0, none⟩ : Addr).add j) = some u := by
  intro j u hj
  have e1 : (⟨g, 0, none⟩ : Addr).add j = ⟨g, j, none⟩ := by
    simp only [Addr.add]; split <;> simp_all
  rw [e1, blk_cell h j]
  subst ht
  rw [List.getElem?_take] at hj
  split at hj
  · simpa using hj
  · cases hj
theorem u8_one (xs : List UInt8) : ∀ u ∈ xs.map bv, u.oneCell' = true := by
  intro u hu
  obtain ⟨c, _, rfl⟩ := List.mem_map.1 hu
  rfl

theorem own_drewN {w : World} {B : Nat} {e : TypeId} {z : Nat} {v : Value} {n : Nat} {xs : List Value} (h : w.ownsRow B e z v n xs) (k : Nat) : (w.drewN k).ownsRow B e z v n xs := h
theorem own_slice {w : World} {B : Nat} {e : TypeId} {z : Nat} {v : Value} {n : Nat} {xs : List Value} (h : w.ownsRow B e z v n xs) : ∃ ga gc, v = .slice ga n gc := by
  rcases h.2 with ⟨h1, h2⟩ | ⟨g, cap, cur, h1, _⟩
  · exact ⟨none, 0, by rw [h2]; exact h1⟩
  · exact ⟨_, _, h1⟩
theorem frozen_grown {w w' : World} {row : Option Nat} {b i : Nat} (h : w.grownBy w' row) (hb : b < w.heap.size) (hne : some b ≠ row) (hf : w.frozen? ⟨b, i, none⟩ = false) : w'.frozen? ⟨b, i, none⟩ = false :=
  (World.frozen?_of_block (a := ⟨b, i, none⟩) (h.block b hb hne)).trans hf

theorem ownBlock_of {w : World} {B : Nat} {e : TypeId} {z : Nat} {v : Value} {n : Nat} {xs : List Value} (h : w.ownsRow B e z v n xs) {k : Nat} (hk : v.ownBlock = some k) : B ≤ k ∧ ∃ cur, w.heap[k]? = some (.cells cur e (0, 0)) := by
  rcases h.2 with ⟨h1, h2⟩ | ⟨g, cap, cur, h1, h2, h3, _⟩
  · subst h1; simp [Value.ownBlock] at hk
  · subst h1
    have : g = k := by simpa [Value.ownBlock] using hk
    subst this
    exact ⟨h2, cur, h3⟩
theorem own_base {w : World} {B C : Nat} {e : TypeId} {z : Nat} {v : Value} {n : Nat} {xs : List Value} (h : w.ownsRow B e z v n xs) (hc : C ≤ B) : w.ownsRow C e z v n xs := by
  refine ⟨h.1, ?_⟩
  rcases h.2 with h1 | ⟨g, cap, cur, h1, h2, h3⟩
  · exact .inl h1
  · exact .inr ⟨g, cap, cur, h1, Nat.le_trans hc h2, h3⟩
theorem wr_failed {w : World} {b m nq : Nat} {s : ByteArray} {a : Addr} {l : List UInt8} {v : Value}
    (hb : w.heap[b]? = some (.cells #[.string ⟨#[]⟩, .nilIface, .int .i64 m, v] 66 (0, 0))) (hown : w.ownsRow 0 5 1 v l.length (l.map bv)) :
    Wr (((w.drewN nq).setCell ⟨b, 0, none⟩ (.string s)).setCell ⟨b, 1, none⟩ (.iface 113 (.pointer (some a)))) b (.bad s a) ∧ Stp b w (((w.drewN nq).setCell ⟨b, 0, none⟩ (.string s)).setCell ⟨b, 1, none⟩ (.iface 113 (.pointer (some a)))) := by
  have hb1 : (w.drewN nq).heap[b]? = some (.cells #[.string ⟨#[]⟩, .nilIface, .int .i64 m, v] 66 (0, 0)) := hb
  have hb2 : (((w.drewN nq).setCell ⟨b, 0, none⟩ (.string s)).setCell ⟨b, 1, none⟩ (.iface 113 (.pointer (some a)))).heap[b]? = some (.cells #[.string s, .iface 113 (.pointer (some a)), .int .i64 m, v] 66 (0, 0)) := by
    rw [blk_set (blk_set hb1 0 _) 1 _]; rfl
  refine ⟨⟨.int .i64 m, v, hb2, fun k hk => ?_⟩, ⟨?_, ?_⟩⟩
  · have := (hown.lt k hk).2
    simpa [World.drewN] using this
  · exact Kp.setCell (Kp.setCell ((Kp.refl _ _).drewN nq) (fun _ => .inl rfl) _) (fun _ => .inl rfl) _
  · rintro k (rfl | ⟨u, hu, hk⟩)
    · exact .inl (.inl rfl)
    · rw [blk_cell hb2 3] at hu
      exact .inl (.inr ⟨u, by rw [blk_cell hb 3]; exact hu, hk⟩)
theorem wr_appended {w w1 : World} {b m nq n : Nat} {l xs : List UInt8} {v v' : Value}
    (hb : w.heap[b]? = some (.cells #[.string ⟨#[]⟩, .nilIface, .int .i64 m, v] 66 (0, 0))) (hne : v.ownBlock ≠ some b)
    (hown' : w1.ownsRow 0 5 1 v' (l.length + xs.length) (l.map bv ++ xs.map bv)) (hgrow : (w.drewN nq).grownBy w1 v.ownBlock) (hat : v'.ownBlock = v.ownBlock ∨ v'.ownBlock = some (w.drewN n).heap.size) :
    Wr (w1.setCell ⟨b, 3, none⟩ v') b (.ok m (l ++ xs)) ∧ Stp b w (w1.setCell ⟨b, 3, none⟩ v') := by
  have hblt : b < w.heap.size := lt_of_block hb
  have hb1 : w1.heap[b]? = some (.cells #[.string ⟨#[]⟩, .nilIface, .int .i64 m, v] 66 (0, 0)) := (hgrow.block b hblt (fun e => hne e.symm)).trans hb
  have hn' : v'.ownBlock ≠ some b := by
    intro e
    obtain ⟨_, cur, hc⟩ := ownBlock_of hown' e
    rw [hb1] at hc
    simp at hc
  have hb2 : (w1.setCell ⟨b, 3, none⟩ v').heap[b]? = some (.cells #[.string ⟨#[]⟩, .nilIface, .int .i64 m, v'] 66 (0, 0)) := by
    rw [blk_set hb1 3 v']; rfl
  have hfoot : ∀ k, v.ownBlock = some k → foot w b k := fun k hk => .inr ⟨v, by rw [blk_cell hb 3]; rfl, hk⟩
  refine ⟨⟨v', hb2, ?_, hn'⟩, ⟨?_, ?_⟩⟩
  · have := ownsRow_setCell_other hown' (a := ⟨b, 3, none⟩) hn' v'
    simpa [List.length_append, List.map_append] using this
  · refine Kp.setCell (Kp.grown (w := w.drewN nq) ((Kp.refl _ _).drewN nq) hgrow (fun k hk _ => hfoot k hk)) (fun _ => .inl rfl) _
  · rintro k (rfl | ⟨u, hu, hk⟩)
    · exact .inl (.inl rfl)
    · rw [blk_cell hb2 3] at hu
      have : v' = u := by simpa using hu
      subst this
      rcases hat with h | h
      · exact .inl (hfoot k (h ▸ hk))
      · rw [h] at hk
        have : w.heap.size = k := by simpa [World.drewN] using hk
        exact .inr (by omega)

set_option maxHeartbeats 1000000 in
set_option maxRecDepth 100000 in
theorem write_ok (b m : Nat) (l xs : List UInt8) (s : ByteArray) (v : Value) (w : World) (hW : Wr w b (.ok m l)) (hm : (m : Int) ≤ 9223372036854775807) (hl : l.length ≤ 1000000) (hx : xs.length ≤ 1000000)
    (hs : w.ownsRow 0 5 1 v xs.length (xs.map bv)) (hv : v ≠ .slice none 0 0) (hfit : l.length + xs.length ≤ m) :
    Calls Tryd.prog 50 #[.pointer (some ⟨b, 0, none⟩), .string s, v] w fun e w' => e = .returned (.tuple #[]) ∧ Wr w' b (.ok m (l ++ xs)) ∧ Stp b w w' := by
  obtain ⟨g, cap, cur, rfl, hg, hcur, hcap, hcm, hcs⟩ := own_shape hs hv
  have hW0 := hW
  obtain ⟨u, hb, hown, hne⟩ := hW
  obtain ⟨ua, hu⟩ : ∃ ua uc, u = .slice ua l.length uc := by
    rcases hown.2 with ⟨h1, h2⟩ | ⟨g, cap, cur, h1, _⟩
    · exact ⟨none, 0, by rw [h2]; exact h1⟩
    · exact ⟨_, _, h1⟩
  obtain ⟨uc, rfl⟩ := hu
  have c2 : w.cell? ⟨b, 2, none⟩ = some (.int .i64 m) := blk_cell hb 2
  have c3 : w.cell? ⟨b, 3, none⟩ = some (.slice ua l.length uc) := blk_cell hb 3
  have f3 : w.frozen? ⟨b, 3, none⟩ = false := blk_free hb 3
  have hblt := lt_of_block hb
  obtain ⟨i0, hi, hz0, hz1, hz2⟩ := info_parts Tryd.info5
  have hnn : (l.length : Int) ≤ 1000000 := by omega
  have hxx : (xs.length : Int) ≤ 1000000 := by omega
  have hm0 : (0 : Int) ≤ m := by omega
  have hfit' : ¬ ((m : Int) - l.length < xs.length) := by omega
  go_enter Tryd.func50, Tryd.ntmps50
  go_wp2_with (go_at_call 48; refine (closed_any _ _ (.ok m l) ?_).mono ?_; exact hW0; rintro e w' ⟨rfl, rfl⟩)
  go_quiet (fail)
  go_wp2_with (at_builtin; refine wpList_append_own_at _ rfl (.tmp 31) (.tmp 32) 64 rfl 0 5 i0 (.int .u8 0) 1 1 Tryd.underlying64 hi hz0 hz1 hz2 rfl (by decide) _ l.length (l.map bv) rfl (own_drewN hown _) ⟨g, 0, none⟩ xs.length cap (xs.map bv) rfl (by simp) (own_cells (w := World.drewN _ _) hg hcur) (u8_one xs) (by unfold maxLen; omega) (by omega) (Nat.zero_le _) ?_; intro v' w1 hown' hgrow _ hat; obtain ⟨ga, gc, hv'⟩ := own_slice hown'; subst hv'; have k3 := (hgrow.cell (a := ⟨b, 3, none⟩) c3 (fun e => hne e.symm)); have e3 := frozen_grown hgrow hblt (fun e => hne e.symm) f3)
  go_end0
  exact ⟨rfl, wr_appended hb hne hown' hgrow hat⟩

set_option maxHeartbeats 1000000 in
set_option maxRecDepth 100000 in
theorem write_long (b m : Nat) (l xs : List UInt8) (s : ByteArray) (v : Value) (aL : Addr) (w : World) (hW : Wr w b (.ok m l)) (hm : (m : Int) ≤ 9223372036854775807) (hl : l.length ≤ 1000000) (hx : xs.length ≤ 1000000)
    (hs : w.ownsRow 0 5 1 v xs.length (xs.map bv)) (hL : w.cell? ⟨2, 0, none⟩ = some (.iface 113 (.pointer (some aL)))) (hfit : m < l.length + xs.length) :
    Calls Tryd.prog 50 #[.pointer (some ⟨b, 0, none⟩), .string s, v] w fun e w' => e = .returned (.tuple #[]) ∧ Wr w' b (.bad s aL) ∧ Stp b w w' := by
  obtain ⟨ga, gc, hv⟩ := own_slice hs
  subst hv
  have hW0 := hW
  obtain ⟨u, hb, hown, hne⟩ := hW
  obtain ⟨ua, uc, rfl⟩ := own_slice hown
  have c0 : w.cell? ⟨b, 0, none⟩ = some (.string ⟨#[]⟩) := blk_cell hb 0
  have c1 : w.cell? ⟨b, 1, none⟩ = some .nilIface := blk_cell hb 1
  have c2 : w.cell? ⟨b, 2, none⟩ = some (.int .i64 m) := blk_cell hb 2
  have c3 : w.cell? ⟨b, 3, none⟩ = some (.slice ua l.length uc) := blk_cell hb 3
  have f0 : w.frozen? ⟨b, 0, none⟩ = false := blk_free hb 0
  have f1 : w.frozen? ⟨b, 1, none⟩ = false := blk_free hb 1
  have hnn : (l.length : Int) ≤ 1000000 := by omega
  have hxx : (xs.length : Int) ≤ 1000000 := by omega
  have hm0 : (0 : Int) ≤ m := by omega
  have hfit' : ((m : Int) - l.length < xs.length) := by omega
  go_enter Tryd.func50, Tryd.ntmps50
  go_wp2_with (go_at_call 48; refine (closed_any _ _ (.ok m l) ?_).mono ?_; exact hW0; rintro e w' ⟨rfl, rfl⟩)
  go_quiet (fail)
  go_wp2
  go_region_with (go_at_call 49; refine (fail_any _ _ _ _ _ (.string ⟨#[]⟩) .nilIface ?_ ?_ ?_ ?_).mono ?_; exact c0; exact c1; exact f0; exact f1; rintro e w' ⟨rfl, rfl⟩)
  all_goals go_wp2
  all_goals exact bodyPost_ret (v := .tuple #[]) (by simp [results, Tryd.results50, go_sem]) rfl ⟨rfl, wr_failed hb hown⟩
end Go.Proofs.YthngdaeiopgigaaDoor
