/- Contracts of tally: a tally in memory; what awake asks. -/
import Derived.Test.YtieelgikhbnalaaTb
namespace Go.Proofs.Ytieelgikhbnalaa
open Go.ChangeShapes Go.WideShapes Go.ChangeAt Go.RowKit
/-- A tally in memory. -/
def Tal (w : World) (b : Nat) (h : Int) : Prop := w.heap[b]? = some (.cells #[.int .u64 h] 49 (0, 0))
theorem blk_cell {w : World} {b : Nat} {arr : Array Value} {T : TypeId} {fr : Nat × Nat} (h : w.heap[b]? = some (.cells arr T fr)) (i : Nat) : w.cell? ⟨b, i, none⟩ = arr[i]? := by simp [World.cell?, h]
theorem blk_free {w : World} {b : Nat} {arr : Array Value} {T : TypeId} (h : w.heap[b]? = some (.cells arr T (0, 0))) (i : Nat) : w.frozen? ⟨b, i, none⟩ = false := by simp [World.frozen?, h]
set_option maxHeartbeats 400000 in
theorem new_any (w : World) :
    Calls Try.prog 8 #[] w fun e w' => e = .returned (.pointer (some ⟨w.heap.size, 0, none⟩)) ∧ w' = w.alloc (.cells #[.int .u64 st] 49) := by
  go_enter Try.func8, Try.ntmps8
  go_wp2
  go_ret
  exact ⟨rfl, rfl⟩
set_option maxHeartbeats 400000 in
theorem sum_a (b : Nat) (h : Int) (w : World) (c : w.cell? ⟨b, 0, none⟩ = some (.int .u64 h)) :
    Calls Try.prog 12 #[.pointer (some ⟨b, 0, none⟩)] w fun e w' => e = .returned (.int .u64 h) ∧ w' = w := by
  go_enter Try.func12, Try.ntmps12
  go_wp2
  go_ret
  exact ⟨rfl, rfl⟩
theorem sum_any (b : Nat) (h : Int) (w : World) (hT : Tal w b h) :
    Calls Try.prog 12 #[.pointer (some ⟨b, 0, none⟩)] w fun e w' => e = .returned (.int .u64 h) ∧ w' = w := sum_a b h w (blk_cell hT 0)
set_option maxHeartbeats 400000 in
theorem sum_nil (w : World) :
    Calls Try.prog 12 #[.pointer none] w fun e w' => e = .returned (.int .u64 st) ∧ w' = w := by
  go_enter Try.func12, Try.ntmps12
  go_wp2
  go_ret
  exact ⟨rfl, rfl⟩
set_option maxHeartbeats 400000 in
theorem add_nil (s : ByteArray) (w : World) :
    Calls Try.prog 11 #[.pointer none, .string s] w fun e w' => e = .returned (.tuple #[]) ∧ w' = w := by
  go_enter Try.func11, Try.ntmps11
  go_wp2
  exact bodyPost_ret (results_none rfl _ _ _) rfl ⟨rfl, rfl⟩
set_option maxHeartbeats 400000 in
theorem num_nil (n : Int) (w : World) :
    Calls Try.prog 9 #[.pointer none, .int .i64 n] w fun e w' => e = .returned (.tuple #[]) ∧ w' = w := by
  go_enter Try.func9, Try.ntmps9
  go_wp2
  exact bodyPost_ret (results_none rfl _ _ _) rfl ⟨rfl, rfl⟩
set_option maxHeartbeats 400000 in
theorem add_any (b : Nat) (h : Int) (s : ByteArray) (w : World) (hs : s.size ≤ 140737488355328) (hT : Tal w b h) :
    Calls Try.prog 11 #[.pointer (some ⟨b, 0, none⟩), .string s] w fun e w' => e = .returned (.tuple #[]) ∧ w' = w.setCell ⟨b, 0, none⟩ (.int .u64 (ovT h s.data.toList)) := by
  have c := blk_cell hT 0
  have f := blk_free hT 0
  go_enter Try.func11, Try.ntmps11
  go_wp2_with (go_at_call 21; refine (text_any _ _ hs _).mono ?_; rintro e w' ⟨rfl, rfl⟩)
  go_end0
  exact ⟨rfl, rfl⟩
/-- A number as one of 64 bits. -/
def unsg (n : Int) : Nat := (n % 18446744073709551616).toNat
theorem unsg_wrap (n : Int) : IntKind.u64.wrap n = (unsg n : Int) := by
  rw [IntKind.wrap_u64]; unfold unsg; omega
set_option maxHeartbeats 400000 in
theorem num_any (b : Nat) (h n : Int) (w : World) (hT : Tal w b h) :
    Calls Try.prog 9 #[.pointer (some ⟨b, 0, none⟩), .int .i64 n] w fun e w' => e = .returned (.tuple #[]) ∧ w' = w.setCell ⟨b, 0, none⟩ (.int .u64 (ovT h (numL (unsg n)))) := by
  have c := blk_cell hT 0
  have f := blk_free hT 0
  have hu := unsg_wrap n
  go_enter Try.func9, Try.ntmps9
  go_wp2_with (go_at_call 20; refine (number_any _ _ _).mono ?_; rintro e w' ⟨rfl, rfl⟩)
  go_end0
  exact ⟨rfl, rfl⟩
theorem blk_new (w : World) (o : Obj) : (w.alloc o).heap[w.heap.size]? = some o := by
  show (w.heap.push o)[w.heap.size]? = _
  simp
theorem cat_one (s : ByteArray) : cat [s] = s.data.toList := by simp [cat]
theorem of_one (s : ByteArray) (b o c : Nat) (w : World) (hs : s.size ≤ 140737488355328) (hc : w.cell? ⟨b, o, none⟩ = some (.string s)) :
    Calls Try.prog 16 #[.slice (some ⟨b, o, none⟩) 1 c] w fun e w' => e = .returned (.int .u64 (ovT st s.data.toList)) ∧ w' = w := by
  have := of_any (.slice (some ⟨b, o, none⟩) 1 c) [s] w (by simp) (by simpa using hs) ⟨_, _, rfl, .inr ⟨_, _, rfl, fun j t ht => by
    cases j <;> simp at ht
    subst ht; exact hc⟩⟩
  rwa [cat_one] at this
theorem of_none (w : World) : Calls Try.prog 16 #[.slice none 0 0] w fun e w' => e = .returned (.int .u64 (ovT st [])) ∧ w' = w :=
  of_any (.slice none 0 0) [] w (by simp) (by simp) ⟨_, _, rfl, .inl rfl⟩
theorem k1 : ovT st [97] = 12638187200555641996 := by kernel_rfl
theorem k2 : ovT st [] = 14695981039346656037 := by kernel_rfl
theorem k3 : shZ (ovT st [97]) = 694300864 := by kernel_rfl
theorem of_a (b o c : Nat) (w : World) (hc : w.cell? ⟨b, o, none⟩ = some (.string ⟨#[97]⟩)) :
    Calls Try.prog 16 #[.slice (some ⟨b, o, none⟩) 1 c] w fun e w' => e = .returned (.int .u64 12638187200555641996) ∧ w' = w := by
  have := of_one ⟨#[97]⟩ b o c w (by decide) hc
  rwa [show ovT st (⟨#[97]⟩ : ByteArray).data.toList = 12638187200555641996 from k1] at this
theorem of_e (b o c : Nat) (w : World) (hc : w.cell? ⟨b, o, none⟩ = some (.string ⟨#[]⟩)) :
    Calls Try.prog 16 #[.slice (some ⟨b, o, none⟩) 1 c] w fun e w' => e = .returned (.int .u64 14695981039346656037) ∧ w' = w := by
  have := of_one ⟨#[]⟩ b o c w (by decide) hc
  rwa [show ovT st (⟨#[]⟩ : ByteArray).data.toList = 14695981039346656037 from k2] at this
theorem of_n (w : World) : Calls Try.prog 16 #[.slice none 0 0] w fun e w' => e = .returned (.int .u64 14695981039346656037) ∧ w' = w := by
  have := of_none w
  rwa [k2] at this
theorem short_a (w : World) : Calls Try.prog 14 #[.string ⟨#[97]⟩] w fun e w' => e = .returned (.int .u32 694300864) ∧ w' = w.alloc (.cells #[.string ⟨#[97]⟩] 9) := by
  have := short_any ⟨#[97]⟩ w (by decide)
  rwa [show shZ (ovT st (⟨#[97]⟩ : ByteArray).data.toList) = 694300864 from k3] at this
theorem new_a (w : World) :
    Calls Try.prog 8 #[] w fun e w' => e = .returned (.pointer (some ⟨w.heap.size, 0, none⟩)) ∧ w' = w.alloc (.cells #[.int .u64 14695981039346656037] 49) := new_any w
set_option maxHeartbeats 800000 in
set_option maxRecDepth 100000 in
theorem awake_any (w : World) :
    Calls Try.prog 7 #[] w fun e w' => e = .returned (.bool true) ∧ Below w.heap.size w w' := by
  go_enter Try.func7, Try.ntmps7
  go_wp2_with fail
  refine (of_a _ _ _ _ ?_).mono ?_
  · simp [go_sem]
  rintro e w' ⟨rfl, rfl⟩
  go_wp2_with fail
  refine (of_n _).mono ?_
  rintro e w' ⟨rfl, rfl⟩
  go_wp2_with fail
  refine (short_a _).mono ?_
  rintro e w' ⟨rfl, rfl⟩
  go_wp2_with fail
  refine (new_a _).mono ?_
  rintro e w' ⟨rfl, rfl⟩
  go_wp2_with fail
  refine (sum_a _ 14695981039346656037 _ ?_).mono ?_
  · simp [go_sem]
  rintro e w' ⟨rfl, rfl⟩
  go_wp2_with fail
  refine (of_e _ _ _ _ ?_).mono ?_
  · simp [go_sem]
  rintro e w' ⟨rfl, rfl⟩
  go_wp2_with fail
  go_ret
  exact ⟨rfl, ((((Below.refl _ _).alloc (Nat.le_refl _) _).alloc (by simp) _).alloc (by simp; omega) _).alloc (by simp; omega) _⟩
end Go.Proofs.Ytieelgikhbnalaa
