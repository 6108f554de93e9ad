/- Rows in memory, and append. -/
import Derived.Test.YtieelgikhbnalaaTc
import Derived.Laws.OwnMore
namespace Go.Proofs.Ytieelgikhbnalaa
open Go.ChangeShapes Go.WideShapes Go.ChangeAt Go.RowKit
/-- A row of one-cell values in memory. -/
def RowV (w : World) (u : Value) (l : List Value) : Prop := (u = .slice none 0 0 ∧ l = []) ∨ ∃ ad c, u = .slice (some ad) l.length c ∧ ∀ (j : Nat) x, l[j]? = some x → w.cell? (ad.add j) = some x
def nv (n : Nat) : Value := .int .u64 (n : Nat)
def sv (s : ByteArray) : Value := .string s
theorem add_plain (b o j : Nat) : (⟨b, o, none⟩ : Addr).add j = ⟨b, o + j, none⟩ := by
  simp only [Addr.add]; split <;> simp_all
theorem RowV.plain {w : World} {u : Value} {l : List Value} (h : RowV w u l) : ∃ a c, u = .slice a l.length c ∧ (l = [] ∨ ∃ b o, a = some ⟨b, o, none⟩ ∧ ∀ (j : Nat) x, l[j]? = some x → w.cell? ⟨b, o + j, none⟩ = some x) := by
  rcases h with ⟨rfl, rfl⟩ | ⟨ad, c, rfl, h⟩
  · exact ⟨_, _, rfl, .inl rfl⟩
  · refine ⟨_, _, rfl, ?_⟩
    cases l with
    | nil => exact .inl rfl
    | cons x l =>
      obtain ⟨b, o, spot⟩ := ad
      have hspot : spot = none := by simpa [Addr.add] using World.cell?_spot (h 0 x rfl)
      subst hspot
      exact .inr ⟨b, o, rfl, fun j y hy => by rw [← add_plain]; exact h j y hy⟩
theorem RowV.nums {w : World} {u : Value} {l : List Nat} (h : RowV w u (l.map nv)) : Nums w u l := by
  obtain ⟨a, c, hu, h⟩ := h.plain
  refine ⟨a, c, by simpa using hu, ?_⟩
  rcases h with h | ⟨b, o, ha, h⟩
  · exact .inl (by simpa using h)
  · exact .inr ⟨b, o, ha, fun j n hn => h j (nv n) (by simp [hn])⟩
theorem RowV.strs {w : World} {u : Value} {l : List ByteArray} (h : RowV w u (l.map sv)) : Strs w u l := by
  obtain ⟨a, c, hu, h⟩ := h.plain
  refine ⟨a, c, by simpa using hu, ?_⟩
  rcases h with h | ⟨b, o, ha, h⟩
  · exact .inl (by simpa using h)
  · exact .inr ⟨b, o, ha, fun j n hn => h j (sv n) (by simp [hn])⟩
theorem RowV.later {w w' : World} {u : Value} {l : List Value} {B : Nat} (h : RowV w u l) (hb : Below B w w') (hB : w.heap.size ≤ B) : RowV w' u l := by
  rcases h with h | ⟨ad, c, hu, h⟩
  · exact .inl h
  · refine .inr ⟨ad, c, hu, fun j x hx => ?_⟩
    have h1 := h j x hx
    have h2 : (ad.add j).block < w.heap.size := World.block_lt_of_cell? w _ h1
    rw [hb.cell (p := ad.add j) (by omega)]; exact h1
theorem own_rowV {w : World} {B e n : Nat} {v : Value} {xs : List Value} (h : w.ownsRow B e 1 v n xs) : RowV w v xs := by
  have hn : n = xs.length := by have := h.1; omega
  rcases h.2 with ⟨h1, h2⟩ | ⟨g, cap, cur, h1, _⟩
  · left; exact ⟨h1, List.eq_nil_of_length_eq_zero (by omega)⟩
  · right
    subst hn
    exact ⟨_, _, h1, h.cells (g := g) (by rw [h1]; rfl)⟩
theorem own_block {w : World} {B : Nat} {e : TypeId} {z : Nat} {v : Value} {n : Nat} {xs : List Value} (h : w.ownsRow B e z v n xs) {k : Nat} (hk : v.ownBlock = some k) : B ≤ k := (h.lt k hk).1
/-- append of any row onto a row of the call's own. -/
theorem wpList_app {P : Program} (w : World) {ops : Array Oper} {rest : List Oper} {o : Oper} {a : Act} {Q : Exit → Act → World → Prop} (hgd : o.guard = none) (s x : Operand) (t : TypeId)
    (ho : o.op = .call { callee := .builtin .append, args := #[s, x], argTypes := #[t, t] })
    (base : Nat) (e : TypeId) (i : TypeInfo) (z : Value) (bytes : Nat) (ht : P.underlying t = some (.slice e)) (hi : P.info? e = some i) (hz : i.zero = some z)
    (hsize : i.size = 1) (hby : i.bytes = bytes) (hzs : z.cells.size = 1)
    (v : Value) (n : Nat) (xs : List Value) (hs : a.eval s = v) (hown : w.ownsRow base e 1 v n xs)
    (u : Value) (news : List Value) (hx : a.eval x = u) (hrow : RowV w u news) (h1 : ∀ u ∈ news, u.oneCell' = true)
    (h63 : n + news.length ≤ maxLen) (hbytes : (n + news.length) * bytes ≤ 140737488355328) (hbase : base ≤ w.heap.size)
    (h : ∀ v' w', w'.ownsRow base e 1 v' (n + news.length) (xs ++ news) → Below base w w' → wpList P ops Q rest (a.put o.dst v') w') :
    wpList P ops Q (o :: rest) a w := by
  rcases hrow with ⟨rfl, rfl⟩ | ⟨ad, c, rfl, hc⟩
  · refine wpList_plain hgd fun K hK => ?_
    have hr := run_append_owned_none (P := P) w base t o.type e i 1 ht hi v n xs hown
    unfold Oper.wp execOp
    simp only [ho, resolve, invoke, builtin, Sem.run_bind, Sem.run_pure, Result.andThen_ok, List.map_toArray, List.map_cons, List.map_nil, hs, hx, hr]
    exact hK _ _ (h v w (by simpa using hown) (Below.refl _ _))
  · refine wpList_append_own_at w hgd s x t ho base e i z 1 bytes ht hi hz hsize hby hzs (by decide) v n xs hs hown ad news.length c news hx (by simp) hc h1 h63 hbytes hbase ?_
    intro v' w' hown' hgrow _ _
    exact h v' w' hown' ((Below.refl _ _).grown hgrow hbase (fun k hk => own_block hown hk))
theorem nv_one (l : List Nat) : ∀ u ∈ l.map nv, u.oneCell' = true := by
  intro u hu
  obtain ⟨c, _, rfl⟩ := List.mem_map.1 hu
  rfl
theorem sv_one (l : List ByteArray) : ∀ u ∈ l.map sv, u.oneCell' = true := by
  intro u hu
  obtain ⟨c, _, rfl⟩ := List.mem_map.1 hu
  rfl
theorem own_slice {w : World} {B : Nat} {e : TypeId} {z : Nat} {v : Value} {n : Nat} {xs : List Value} (h : w.ownsRow B e z v n xs) : ∃ ga gc, v = .slice ga n gc := by
  rcases h.2 with ⟨h1, h2⟩ | ⟨g, cap, cur, h1, _⟩
  · exact ⟨none, 0, by rw [h2]; exact h1⟩
  · exact ⟨_, _, h1⟩
theorem own_nv {w : World} {B : Nat} {v : Value} {n m : Nat} {a b : List Nat} (h : w.ownsRow B 32 1 v (n + m) (a.map nv ++ b.map nv)) : w.ownsRow B 32 1 v (n + m) ((a ++ b).map nv) := by rw [List.map_append]; exact h
theorem Try.info32 : (Try.prog.info? 32).map (fun i => (i.zero, i.size, i.bytes)) = some (some (.int .u64 0), 1, 8) := by kernel_rfl
theorem wpList_nums (w : World) {ops : Array Oper} {rest : List Oper} {o : Oper} {a : Act} {Q : Exit → Act → World → Prop} (hgd : o.guard = none) (s x : Operand)
    (ho : o.op = .call { callee := .builtin .append, args := #[s, x], argTypes := #[23, 23] })
    (base : Nat) (v : Value) (xs : List Nat) (hs : a.eval s = v) (hown : w.ownsRow base 32 1 v xs.length (xs.map nv))
    (u : Value) (l : List Nat) (hx : a.eval x = u) (hrow : RowV w u (l.map nv)) (hlen : xs.length + l.length ≤ 1000) (hbase : base ≤ w.heap.size)
    (h : ∀ ga gc (y : List Nat) w', Hid (y = xs ++ l) → Hid (w'.ownsRow base 32 1 (.slice ga y.length gc) y.length (y.map nv)) → Hid (Below base w w') → wpList Try.prog ops Q rest (a.put o.dst (.slice ga y.length gc)) w') :
    wpList Try.prog ops Q (o :: rest) a w := by
  obtain ⟨i0, hi, hz0, hz1, hz2⟩ := info_parts Try.info32
  refine wpList_app w hgd s x 23 ho base 32 i0 (.int .u64 0) 8 Try.underlying23 hi hz0 hz1 hz2 rfl v xs.length (xs.map nv) hs hown u (l.map nv) hx hrow (nv_one l) (by simp [maxLen]; omega) (by simp; omega) hbase ?_
  intro v' w' hown' hb
  have e : xs.length + (l.map nv).length = (xs ++ l).length := by simp
  rw [e, ← List.map_append] at hown'
  obtain ⟨ga, gc, rfl⟩ := own_slice hown'
  exact h ga gc (xs ++ l) w' rfl hown' hb
/-! The mixing, plainly. -/
def tot (l : List Nat) : Int := (l.map fun n => ovT st (numL n)).sum
theorem tot_app (a b : List Nat) : tot (a ++ b) = tot a + tot b := by simp [tot]
theorem mix_tot : ∀ (l : List Nat) (m : Int), l.foldl (fun m n => IntKind.u64.wrap (m + ovT st (numL n))) (m % 18446744073709551616) = (m + tot l) % 18446744073709551616
  | [], m => by simp [tot]
  | n :: l, m => by
    have := mix_tot l (m % 18446744073709551616 + ovT st (numL n))
    simp only [List.foldl_cons, IntKind.wrap_u64]
    rw [show (fun (m : Int) n => (m + ovT st (numL n)) % 18446744073709551616) = (fun m n => IntKind.u64.wrap (m + ovT st (numL n))) from by funext m n; rw [IntKind.wrap_u64], this]
    simp only [tot, List.map_cons, List.sum_cons]
    omega
theorem mixZ_tot (l : List Nat) : mixZ l = tot l % 18446744073709551616 := by
  have := mix_tot l 0
  simpa [mixZ] using this
theorem mixes1 (a b : List Nat) : (mixZ (a ++ b) == mixZ (b ++ a)) = true := by
  rw [beq_iff_eq, mixZ_tot, mixZ_tot, tot_app, tot_app, Int.add_comm]
theorem mixes2 (a b : List Nat) : (mixZ (a ++ b) == IntKind.u64.wrap (mixZ a + mixZ b)) = true := by
  rw [beq_iff_eq, mixZ_tot, mixZ_tot, mixZ_tot, tot_app, IntKind.wrap_u64]; omega
theorem mixes3 (n : Nat) (a b : List Nat) : (IntKind.u64.wrap (mixZ ([n] ++ a ++ b) - mixZ (a ++ b)) == mixZ [n]) = true := by
  rw [beq_iff_eq, mixZ_tot, mixZ_tot, mixZ_tot, tot_app, tot_app, tot_app, IntKind.wrap_u64]; omega
end Go.Proofs.Ytieelgikhbnalaa
