/- Contracts of the reference: a number's bytes. -/
import Derived.Test.YtieelgikhbnalaaTd
import Derived.Test.YtieelgikhbnalaaTe
namespace Go.Proofs.Ytieelgikhbnalaa
open Go.ChangeShapes Go.WideShapes Go.ChangeAt Go.RowKit
def bv (c : UInt8) : Value := .int .u8 (c.toNat : Int)
theorem bv_one (l : List UInt8) : ∀ u ∈ l.map bv, u.oneCell' = true := by
  intro u hu
  obtain ⟨c, _, rfl⟩ := List.mem_map.1 hu
  rfl
theorem Try.info5 : (Try.prog.info? 5).map (fun i => (i.zero, i.size, i.bytes)) = some (some (.int .u8 0), 1, 1) := by kernel_rfl
theorem Try.info9 : (Try.prog.info? 9).map (fun i => (i.zero, i.size, i.bytes)) = some (some (.string ⟨#[]⟩), 1, 16) := by kernel_rfl
theorem lit_row (w : World) (arr : Array Value) (e : TypeId) (h : arr.size ≤ 100) : (w.alloc (.cells arr e)).ownsRow w.heap.size e 1 (.slice (some ⟨w.heap.size, 0, none⟩) arr.size arr.size) arr.size arr.toList :=
  World.ownsRow_lit (base := w.heap.size) (e := e) (size := 1) w arr arr.size (Nat.le_refl _) (by unfold maxLen; omega) (by simp)
theorem wpList_bytes (w : World) {ops : Array Oper} {rest : List Oper} {o : Oper} {a : Act} {Q : Exit → Act → World → Prop} (hgd : o.guard = none) (s x : Operand)
    (ho : o.op = .call { callee := .builtin .append, args := #[s, x], argTypes := #[45, 45] })
    (base : Nat) (v : Value) (xs : List UInt8) (hs : a.eval s = v) (hown : w.ownsRow base 5 1 v xs.length (xs.map bv))
    (u : Value) (l : List UInt8) (hx : a.eval x = u) (hrow : RowV w u (l.map bv)) (hlen : xs.length + l.length ≤ 1000) (hbase : base ≤ w.heap.size)
    (h : ∀ ga gc (y : List UInt8) w', Hid (y = xs ++ l) → Hid (w'.ownsRow base 5 1 (.slice ga y.length gc) y.length (y.map bv)) → Hid (Below base w w') → wpList Try.prog ops Q rest (a.put o.dst (.slice ga y.length gc)) w') :
    wpList Try.prog ops Q (o :: rest) a w := by
  obtain ⟨i0, hi, hz0, hz1, hz2⟩ := info_parts Try.info5
  refine wpList_app w hgd s x 45 ho base 5 i0 (.int .u8 0) 1 Try.underlying45 hi hz0 hz1 hz2 rfl v xs.length (xs.map bv) hs hown u (l.map bv) hx hrow (bv_one l) (by simp [maxLen]; omega) (by simp; omega) hbase ?_
  intro v' w' hown' hb
  have e : xs.length + (l.map bv).length = (xs ++ l).length := by simp
  rw [e, ← List.map_append] at hown'
  obtain ⟨ga, gc, rfl⟩ := own_slice hown'
  exact h ga gc (xs ++ l) w' rfl hown' hb
theorem wpList_strs (w : World) {ops : Array Oper} {rest : List Oper} {o : Oper} {a : Act} {Q : Exit → Act → World → Prop} (hgd : o.guard = none) (s x : Operand)
    (ho : o.op = .call { callee := .builtin .append, args := #[s, x], argTypes := #[27, 27] })
    (base : Nat) (v : Value) (xs : List ByteArray) (hs : a.eval s = v) (hown : w.ownsRow base 9 1 v xs.length (xs.map sv))
    (u : Value) (l : List ByteArray) (hx : a.eval x = u) (hrow : RowV w u (l.map sv)) (hlen : xs.length + l.length ≤ 1000) (hbase : base ≤ w.heap.size)
    (h : ∀ ga gc (y : List ByteArray) w', Hid (y = xs ++ l) → Hid (w'.ownsRow base 9 1 (.slice ga y.length gc) y.length (y.map sv)) → Hid (Below base w w') → wpList Try.prog ops Q rest (a.put o.dst (.slice ga y.length gc)) w') :
    wpList Try.prog ops Q (o :: rest) a w := by
  obtain ⟨i0, hi, hz0, hz1, hz2⟩ := info_parts Try.info9
  refine wpList_app w hgd s x 27 ho base 9 i0 (.string ⟨#[]⟩) 16 Try.underlying27 hi hz0 hz1 hz2 rfl v xs.length (xs.map sv) hs hown u (l.map sv) hx hrow (sv_one l) (by simp [maxLen]; omega) (by simp; omega) hbase ?_
  intro v' w' hown' hb
  have e : xs.length + (l.map sv).length = (xs ++ l).length := by simp
  rw [e, ← List.map_append] at hown'
  obtain ⟨ga, gc, rfl⟩ := own_slice hown'
  exact h ga gc (xs ++ l) w' rfl hown' hb
theorem bv_num (n k : Nat) : bv (UInt8.ofNat (n / 256 ^ k)) = .int .u8 ((n : Int) / 2 ^ (8 * k) % 256) := by
  unfold bv; rw [num_at]
  have e : (2 : Int) ^ (8 * k) = ((256 ^ k : Nat) : Int) := by
    rw [Int.pow_mul, Int.natCast_pow]; rfl
  rw [e, Int.natCast_ediv]
theorem row_one (w : World) (x : Value) (e : TypeId) : RowV (w.alloc (.cells #[x] e)) (.slice (some ⟨w.heap.size, 0, none⟩) 1 1) [x] :=
  own_rowV (lit_row w #[x] e (by simp))
theorem bytes_back (w : World) (ga : Option Addr) (gc : Nat) (l : List UInt8) (h : RowV w (.slice ga l.length gc) (l.map bv)) (h0 : 0 < l.length) : (convert 45 9 (.slice ga l.length gc)).run Try.prog w = .ok (.string ⟨l.toArray⟩) w := by
  rcases h with ⟨h1, h2⟩ | ⟨ad, c, h1, h2⟩
  · simp at h2; subst h2; simp at h0
  · simp only [Value.slice.injEq, List.length_map] at h1
    obtain ⟨rfl, -, rfl⟩ := h1
    refine run_convert_bytes_back w 45 9 5 ad gc l Try.underlying45 Try.underlying5 Try.underlying9 (fun j hj => ?_)
    exact h2 j (bv l[j]) (by simp [hj])
set_option maxHeartbeats 1600000 in
set_option maxRecDepth 100000 in
theorem rnum_any (n : Nat) (w : World) :
    Calls Try.prog 10 #[.int .u64 n] w fun e w' => (∃ s : ByteArray, e = .returned (.string s) ∧ s.data.toList = numL n) ∧ Below w.heap.size w w' := by
  have e1 := hid ((Below.refl w.heap.size w).alloc (Nat.le_refl _) (.cells #[] 5))
  have o1 := hid (lit_row w #[] 5 (by simp))
  go_enter Try.func10, Try.ntmps10
  go_wp2_with fail
  go_loopw [3, 4] (fun v i wr => ∃ (k : Nat) (ga : Option Addr) (gc : Nat) (y : List UInt8), k ≤ 8 ∧ i = .int .i64 k ∧ v = .slice ga y.length gc ∧ y = (numL n).take k ∧ wr.ownsRow w.heap.size 5 1 (.slice ga y.length gc) y.length (y.map bv) ∧ Below w.heap.size w wr) (fun _ i _ => 8 - (intOf i).toNat)
  case atStart => exact ⟨0, some ⟨w.heap.size, 0, none⟩, 0, [], Nat.zero_le _, rfl, rfl, rfl, o1.out, e1.out⟩
  case round =>
    obtain ⟨k, ga, gc, y, hk, rfl, rfl, hy, hown, hb⟩ := hrel
    have HY := hid hy
    have HO := hid hown
    have HB := hid hb
    have hyl : Hid (y.length = k) := by show y.length = k; rw [hy]; simp [numL]; omega
    clear hy hown hb
    by_cases hlt : k < 8
    · have HN := hid (num_take n k hlt)
      have HV := hid (bv_num n k)
      have R1 := hid (row_one wr (bv (UInt8.ofNat (n / 256 ^ k))) 5)
      rw [HV.out] at R1
      have R2 : Hid (RowV (wr.alloc (.cells #[.int .u8 ((n : Int) / 2 ^ (8 * k) % 256)] 5)) (.slice (some ⟨wr.heap.size, 0, none⟩) 1 1) ([UInt8.ofNat (n / 256 ^ k)].map bv)) := by
        show RowV _ _ _
        rw [List.map_cons, List.map_nil, HV.out]; exact R1.out
      clear R1 HV
      go_wp2_with (at_builtin; refine wpList_bytes _ rfl (.tmp 10) (.tmp 16) rfl w.heap.size _ y rfl ?_ _ [UInt8.ofNat (n / 256 ^ k)] rfl ?_ ?_ ?_ ?_; exact HO.out.alloc _; exact R2.out; rw [hyl.out]; simp; omega; exact (HB.out.alloc HB.out.size _).size; intro g1 c1 y1 w2 h2 o2 b2)
      go_roundw
      case rel => exact ⟨k + 1, g1, c1, y1, by omega, by go_num, rfl, by rw [h2.out, HN.out, HY.out], o2.out, (HB.out.alloc HB.out.size _).trans b2.out⟩
      case measure => simp [intOf]; omega
    · obtain rfl : k = 8 := by omega
      have E : Hid (y = numL n) := by show y = numL n; rw [HY.out, List.take_of_length_le (by simp [numL])]
      have C := bytes_back wr ga gc y (own_rowV HO.out) (by rw [hyl.out]; decide)
      go_wp2_with fail
      go_ret
      exact ⟨⟨_, rfl, by rw [← E.out]⟩, HB.out⟩
theorem size_numL (n : Nat) : (numL n).length = 8 := by simp [numL]
theorem Below.rebase {w a b : World} (h1 : Below w.heap.size w a) (h2 : Below a.heap.size a b) : Below w.heap.size w b := h1.trans (h2.mono h1.size)
set_option maxHeartbeats 1600000 in
set_option maxRecDepth 100000 in
theorem rmix_any (v : Value) (l : List Nat) (w : World) (hl : l.length ≤ 60) (hv : RowV w v (l.map nv)) :
    Calls Try.prog 18 #[v] w fun e w' => e = .returned (.int .u64 (mixZ l)) ∧ Below w.heap.size w w' := by
  obtain ⟨a, c, hva, -⟩ := hv.plain
  rw [List.length_map] at hva
  subst hva
  have HV := hid hv
  clear hv
  go_enter Try.func18, Try.ntmps18
  go_wp2_with fail
  go_loopw [3, 4] (fun m i wr => ∃ k : Nat, k ≤ l.length ∧ i = .int .i64 k ∧ m = .int .u64 (mixZ (l.take k)) ∧ Below w.heap.size w wr) (fun _ i _ => l.length - (intOf i).toNat)
  case atStart => exact ⟨0, Nat.zero_le _, rfl, rfl, Below.refl _ _⟩
  case round =>
    obtain ⟨k, hk, rfl, rfl, hb⟩ := hrel
    have VR := hid (HV.out.later hb (Nat.le_refl _))
    have HB := hid hb
    clear hb
    by_cases hlt : k < l.length
    · obtain ⟨n, hsk⟩ := at_lt l k hlt
      obtain ⟨_, _, hva2, hcs⟩ := VR.out.nums
      obtain ⟨b, o, rfl, hc⟩ := hcs.resolve_left (by rintro rfl; simp at hlt)
      simp only [Value.slice.injEq, true_and] at hva2
      obtain ⟨rfl, rfl⟩ := hva2
      have c1 := hc k n hsk
      have HS := hid (show mixZ (l.take (k + 1)) = IntKind.u64.wrap (mixZ (l.take k) + ovT st (numL n)) by rw [take_next hsk, mix_snoc])
      clear hc hsk
      go_wp2_with fail
      refine (rnum_any n _).mono ?_
      rintro e w2 ⟨⟨s, rfl, hs⟩, hb2⟩
      have hz : s.size ≤ 140737488355328 := by
        have h1 : s.size = (numL n).length := by rw [← hs]; simp
        rw [h1, size_numL]; omega
      have HS2 := hid hs
      have HB2 := hid hb2
      clear hs hb2
      go_wp2_with fail
      refine (on_any _ s hz _).mono ?_
      rw [HS2.out]
      rintro e w' ⟨rfl, rfl⟩
      go_wp2_with fail
      go_roundw
      case rel => exact ⟨k + 1, by omega, by go_num, by rw [HS.out]; rfl, Below.rebase HB.out HB2.out⟩
      case measure => simp [intOf]; omega
    · go_wp2_with fail
      go_ret
      exact ⟨ret_u (by rw [List.take_of_length_le (by omega)]), HB.out⟩
end Go.Proofs.Ytieelgikhbnalaa
