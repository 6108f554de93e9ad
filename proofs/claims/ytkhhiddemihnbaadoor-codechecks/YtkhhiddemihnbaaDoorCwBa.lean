/- The table of operations in memory; what is asked of it. -/
import Derived.Test.YtkhhiddemihnbaaDoorCwAc
import Derived.Test.YtkhhiddemihnbaaDoorKr
import Derived.Test.YtkhhiddemihnbaaDoorScSa
import Derived.Deep.DeepCutAuto
import Derived.Deep.CutRange
import Derived.Deep.CutBlock
import Derived.BigQuiet
namespace Go.Proofs.YtkhhiddemihnbaaDoor.Cw
open Go.RowKit Go.Shelf
def J64 (i : Int) : Prop := (Lit.int .i64 i).wf = true
def b_ (l : List UInt8) : ByteArray := ⟨l.toArray⟩
def wordT : List ByteArray := [⟨#[110, 111, 112]⟩, ⟨#[112, 117, 115, 104]⟩, ⟨#[100, 117, 112]⟩, ⟨#[100, 114, 111, 112]⟩, ⟨#[115, 119, 97, 112]⟩, ⟨#[111, 118, 101, 114]⟩, ⟨#[97, 100, 100]⟩, ⟨#[115, 117, 98]⟩, ⟨#[109, 117, 108]⟩, ⟨#[100, 105, 118]⟩, ⟨#[109, 111, 100]⟩, ⟨#[110, 101, 103]⟩, ⟨#[97, 110, 100]⟩, ⟨#[111, 114]⟩, ⟨#[120, 111, 114]⟩, ⟨#[115, 104, 108]⟩, ⟨#[115, 104, 114]⟩, ⟨#[101, 113]⟩, ⟨#[108, 116]⟩, ⟨#[110, 111, 116]⟩, ⟨#[106, 117, 109, 112]⟩, ⟨#[122, 101, 114, 111]⟩, ⟨#[108, 111, 97, 100]⟩, ⟨#[115, 116, 111, 114, 101]⟩, ⟨#[104, 97, 115]⟩, ⟨#[105, 110, 112, 117, 116]⟩, ⟨#[114, 101, 115]⟩, ⟨#[115, 101, 116, 114, 101, 115]⟩, ⟨#[114, 97, 110, 100]⟩, ⟨#[105, 100]⟩, ⟨#[102, 114, 97, 109, 101]⟩, ⟨#[115, 112, 97, 119, 110]⟩, ⟨#[100, 101, 115, 112, 97, 119, 110]⟩, ⟨#[105, 110, 115, 101, 114, 116]⟩, ⟨#[114, 101, 109, 111, 118, 101]⟩, ⟨#[104, 97, 108, 116]⟩]
def wordN (k : Nat) : ByteArray := wordT.getD k ⟨#[]⟩
def word (op : Int) : ByteArray := if known op then wordN op.toNat else ⟨#[]⟩
/-- The program's table lies where its text lays it. -/
def OpsAt (W : World) : Prop := ∀ k, k < 36 → W.cell? ⟨1, k * 4, none⟩ = some (.string (wordN k)) ∧ W.cell? ⟨1, k * 4 + 1, none⟩ = some (.int .i64 (argsT.getD k 0)) ∧ W.cell? ⟨1, k * 4 + 2, none⟩ = some (.int .i64 (takesT.getD k 0)) ∧ W.cell? ⟨1, k * 4 + 3, none⟩ = some (.int .i64 (laysT.getD k 0))
theorem OpsAt.later {W W' : World} (h : OpsAt W) (hb : Below W.heap.size W W') : OpsAt W' := fun k hk =>
  have S := fun {p : Addr} {u : Value} (h : W.cell? p = some u) => Sc.Below.seen hb (Nat.le_refl _) h
  ⟨S (h k hk).1, S (h k hk).2.1, S (h k hk).2.2.1, S (h k hk).2.2.2⟩
theorem below_any (n m : Int) (W : World) : Calls Tryd.prog 45 #[.int .i64 n, .int .i64 m] W fun e W' => e = .returned (.bool (decide (0 ≤ n) && decide (n < m))) ∧ W' = W := by
  by_cases h : 0 ≤ n
  · by_cases h2 : n < m
    · have e : (decide (0 ≤ n) && decide (n < m)) = true := by simp [h, h2]
      rw [e]
      go_enter Tryd.func45, Tryd.ntmps45
      go_wp2_with fail
      go_ret
      exact ⟨rfl, rfl⟩
    · have e : (decide (0 ≤ n) && decide (n < m)) = false := by simp [h2]
      rw [e]
      go_enter Tryd.func45, Tryd.ntmps45
      go_wp2_with fail
      go_ret
      exact ⟨rfl, rfl⟩
  · have e : (decide (0 ≤ n) && decide (n < m)) = false := by simp [h]
    rw [e]
    go_enter Tryd.func45, Tryd.ntmps45
    go_wp2_with fail
    go_ret
    exact ⟨rfl, rfl⟩
theorem known_any (op : Int) (W : World) : Calls Tryd.prog 25 #[.int .i64 op] W fun e W' => e = .returned (.bool (known op)) ∧ W' = W := by
  have B := hid (below_any op 36 W)
  go_enter Tryd.func25, Tryd.ntmps25
  go_wp2_with fail
  refine B.out.mono ?_
  rintro e w1 ⟨rfl, rfl⟩
  go_wp2_with fail
  go_ret
  exact ⟨rfl, rfl⟩
def opV (op : Int) : Value := .agg #[.string (word op), .int .i64 (args op), .int .i64 (takes op), .int .i64 (lays op)]
theorem known_nat {op : Int} (h : known op = true) : ∃ k : Nat, op = (k : Int) ∧ k < 36 := by
  unfold known at h
  simp at h
  exact ⟨op.toNat, by omega, by omega⟩
theorem known_of {k : Nat} (h : k < 36) : known (k : Int) = true := by
  unfold known
  simp
  omega
set_option maxHeartbeats 800000 in
theorem told_any (W : World) (hO : OpsAt W) (op : Int) : Calls Tryd.prog 24 #[.int .i64 op] W fun e W' => e = .returned (opV op) ∧ Below W.heap.size W W' := by
  cases hk : known op with
  | true =>
    obtain ⟨k, rfl, h36⟩ := known_nat hk
    have e1 : word (k : Int) = wordN k := by unfold word; rw [hk]; rfl
    have e2 : args (k : Int) = argsT.getD k 0 := by unfold args num; rw [hk]; rfl
    have e3 : takes (k : Int) = takesT.getD k 0 := by unfold takes num; rw [hk]; rfl
    have e4 : lays (k : Int) = laysT.getD k 0 := by unfold lays num; rw [hk]; rfl
    obtain ⟨c0, c1, c2, c3⟩ := hO k h36
    have hl : 1 < W.heap.size := World.block_lt_of_cell? W _ c0
    have hn : ¬ (1 = W.heap.size) := by omega
    have KN := hid (fun W' => known_any (k : Int) W')
    rw [hk] at KN
    unfold opV
    rw [e1, e2, e3, e4]
    generalize wordN k = s at *
    generalize argsT.getD k 0 = n1 at *
    generalize takesT.getD k 0 = n2 at *
    generalize laysT.getD k 0 = n3 at *
    have hki : (k : Int) < 36 := by omega
    clear e1 e2 e3 e4 hk hO
    go_enter Tryd.func24, Tryd.ntmps24
    go_wp2_with fail
    refine (KN.out _).mono ?_
    rintro e w1 ⟨rfl, rfl⟩
    clear KN
    go_wp2_with fail
    exact bodyPost_ret (v := .agg #[.string s, .int .i64 n1, .int .i64 n2, .int .i64 n3]) (by simp [results, Tryd.results24, go_sem]) rfl ⟨rfl, (Below.refl _ _).alloc (Nat.le_refl _) _⟩
  | false =>
    have e : opV op = .agg #[.string ⟨#[]⟩, .int .i64 0, .int .i64 0, .int .i64 0] := by
      unfold opV word args takes lays num
      rw [hk]
      rfl
    rw [e]
    have KN := hid (fun W' => known_any op W')
    rw [hk] at KN
    clear hk e
    go_enter Tryd.func24, Tryd.ntmps24
    go_wp2_with fail
    refine (KN.out _).mono ?_
    rintro e w1 ⟨rfl, rfl⟩
    clear KN
    go_wp2_with fail
    exact bodyPost_ret (v := .agg #[.string ⟨#[]⟩, .int .i64 0, .int .i64 0, .int .i64 0]) (by simp [results, Tryd.results24, go_sem]) rfl ⟨rfl, (Below.refl _ _).alloc (Nat.le_refl _) _⟩
theorem Bq {B : Nat} {w w' : World} (h : Below B w w') (n : Nat) : Below B w (w'.drewN n) := h.trans ⟨rfl, rfl, rfl, Nat.le_refl _, fun _ _ => rfl⟩
set_option maxHeartbeats 400000 in
set_option maxRecDepth 100000 in
theorem name_any (W : World) (hO : OpsAt W) (op : Int) : Calls Tryd.prog 13 #[.int .i64 op] W fun e W' => e = .returned (.string (word op)) ∧ Below W.heap.size W W' := by
  have T := hid (told_any W hO op)
  unfold opV at T
  clear hO
  generalize word op = s at *
  generalize args op = n1 at *
  generalize takes op = n2 at *
  generalize lays op = n3 at *
  have hf : ∀ w : World, (Instr.field 71 (.agg #[.string s, .int .i64 n1, .int .i64 n2, .int .i64 n3]) 0).run Tryd.prog w = .ok (.string s) w := fun _ => by kernel_rfl
  go_enter Tryd.func13, Tryd.ntmps13
  go_wp2_with fail
  refine T.out.mono ?_
  rintro e w1 ⟨rfl, hb⟩
  have B := hid hb
  clear hb T
  go_wp2_with fail
  go_ret
  exact ⟨rfl, B.out⟩
set_option maxHeartbeats 400000 in
set_option maxRecDepth 100000 in
theorem args_any (W : World) (hO : OpsAt W) (op : Int) : Calls Tryd.prog 14 #[.int .i64 op] W fun e W' => e = .returned (.int .i64 (args op)) ∧ Below W.heap.size W W' := by
  have T := hid (told_any W hO op)
  unfold opV at T
  clear hO
  generalize word op = s at *
  generalize args op = n1 at *
  generalize takes op = n2 at *
  generalize lays op = n3 at *
  have hf : ∀ w : World, (Instr.field 71 (.agg #[.string s, .int .i64 n1, .int .i64 n2, .int .i64 n3]) 1).run Tryd.prog w = .ok (.int .i64 n1) w := fun _ => by kernel_rfl
  go_enter Tryd.func14, Tryd.ntmps14
  go_wp2_with fail
  refine T.out.mono ?_
  rintro e w1 ⟨rfl, hb⟩
  have B := hid hb
  clear hb T
  go_wp2_with fail
  go_ret
  exact ⟨rfl, B.out⟩
set_option maxHeartbeats 400000 in
set_option maxRecDepth 100000 in
theorem moves_any (W : World) (hO : OpsAt W) (op : Int) : Calls Tryd.prog 11 #[.int .i64 op] W fun e W' => e = .returned (.tuple #[.int .i64 (takes op), .int .i64 (lays op)]) ∧ Below W.heap.size W W' := by
  have T := hid (told_any W hO op)
  unfold opV at T
  clear hO
  generalize word op = s at *
  generalize args op = n1 at *
  generalize takes op = n2 at *
  generalize lays op = n3 at *
  go_enter Tryd.func11, Tryd.ntmps11
  go_wp2_with fail
  refine T.out.mono ?_
  rintro e w1 ⟨rfl, hb⟩
  have B := hid (hb.trans (((Below.refl _ _).alloc (Nat.le_refl _) (.cells #[.string s, .int .i64 n1, .int .i64 n2, .int .i64 n3] 71)).mono hb.size))
  clear hb T
  go_upto_region 2 with fail
  go_quiet (fail)
  go_wp2
  go_ret2
  exact ⟨rfl, by first | exact B.out | exact Bq B.out _⟩
set_option maxHeartbeats 800000 in
theorem jumps_any (W : World) (op : Int) : Calls Tryd.prog 12 #[.int .i64 op] W fun e W' => e = .returned (.tuple #[.bool (jmp op), .bool (onw op)]) ∧ Below W.heap.size W W' := by
  have KN := hid (known_any op W)
  by_cases h20 : op = 20
  · subst h20
    have e1 : known 20 = true := rfl
    rw [e1] at KN
    clear e1
    rw [show jmp 20 = true from rfl, show onw 20 = false from rfl]
    go_enter Tryd.func12, Tryd.ntmps12
    go_wp2_with fail
    refine KN.out.mono ?_
    rintro e w1 ⟨rfl, rfl⟩
    clear KN
    go_wp2_with fail
    go_ret2
    exact ⟨rfl, Below.refl _ _⟩
  · by_cases h21 : op = 21
    · subst h21
      have e1 : known 21 = true := rfl
      rw [e1] at KN
      clear e1
      rw [show jmp 21 = true from rfl, show onw 21 = true from rfl]
      go_enter Tryd.func12, Tryd.ntmps12
      go_wp2_with fail
      refine KN.out.mono ?_
      rintro e w1 ⟨rfl, rfl⟩
      clear KN
      go_wp2_with fail
      go_ret2
      exact ⟨rfl, Below.refl _ _⟩
    · have ej : jmp op = false := by
        unfold jmp
        simp [h20, h21]
      by_cases h35 : op = 35
      · subst h35
        have e1 : known 35 = true := rfl
        rw [e1] at KN
        clear e1
        rw [show jmp 35 = false from rfl, show onw 35 = false from rfl]
        clear ej h20 h21
        go_enter Tryd.func12, Tryd.ntmps12
        go_wp2_with fail
        refine KN.out.mono ?_
        rintro e w1 ⟨rfl, rfl⟩
        clear KN
        go_wp2_with fail
        go_ret2
        exact ⟨rfl, Below.refl _ _⟩
      · have eo : onw op = known op := by
          unfold onw
          simp [h20, h35]
        rw [ej, eo]
        generalize known op = q at *
        clear ej eo
        go_enter Tryd.func12, Tryd.ntmps12
        go_wp2_with fail
        refine KN.out.mono ?_
        rintro e w1 ⟨rfl, rfl⟩
        clear KN
        go_wp2_with fail
        go_ret2
        exact ⟨rfl, Below.refl _ _⟩
def eqS (a b : ByteArray) : Bool := a.toList == b.toList
theorem eqS_iff (a b : ByteArray) : eqS a b = true ↔ a = b := by
  unfold eqS
  constructor
  · intro h
    have h := eq_of_beq h
    rw [Lib.toList_data, Lib.toList_data] at h
    exact ByteArray.ext (Array.toList_inj.1 h)
  · rintro rfl; exact beq_self_eq_true _
/-- The number of a word, from a place on; 36, if there is none. -/
def wix (s : ByteArray) : Nat → Nat → Nat
  | 0, k => k
  | j + 1, k => if eqS (wordN k) s then k else wix s j (k + 1)
def found (s : ByteArray) : Nat := wix s 36 0
def foundI (s : ByteArray) : Int := if found s < 36 then (found s : Int) else 0
def foundB (s : ByteArray) : Bool := decide (found s < 36)
theorem wix_le (s : ByteArray) : ∀ j k, wix s j k ≤ k + j
  | 0, k => Nat.le_refl _
  | j + 1, k => by
    unfold wix
    split
    · omega
    · have := wix_le s j (k + 1)
      omega
set_option maxHeartbeats 800000 in
set_option maxRecDepth 100000 in
theorem find_any (W : World) (hO : OpsAt W) (s : ByteArray) : Calls Tryd.prog 15 #[.string s] W fun e W' => e = .returned (.tuple #[.int .i64 (foundI s), .bool (foundB s)]) ∧ W' = W := by
  have HO := hid hO
  clear hO
  go_enter Tryd.func15, Tryd.ntmps15
  go_wp2_with fail
  go_loop [4, 5] (fun _ i => ∃ k : Nat, k ≤ 36 ∧ i = .int .i64 (k : Int) ∧ Hid (found s = wix s (36 - k) k)) (fun _ i => 36 - (intOf i).toNat)
  case atStart => exact ⟨0, Nat.zero_le _, rfl, rfl⟩
  case round =>
    obtain ⟨k, hk, rfl, HF⟩ := hrel
    by_cases hlt : k < 36
    · have hki : (k : Int) < 36 := by omega
      obtain ⟨c0, -, -, -⟩ := HO.out k hlt
      have HS : Hid (wix s (36 - k) k = if eqS (wordN k) s then k else wix s (36 - (k + 1)) (k + 1)) := by
        show _ = _
        rw [show 36 - k = (36 - (k + 1)) + 1 by omega]
        rfl
      have HN := hid (show found s = if eqS (wordN k) s then k else wix s (36 - (k + 1)) (k + 1) from HF.out.trans HS.out)
      clear HF HS
      generalize wordN k = x at *
      cases hq : eqS x s with
      | true =>
        rw [hq] at HN
        have hq' : (x.toList == s.toList) = true := hq
        have R1 : Hid (found s = k) := HN.out
        clear hq HN
        go_wp2_with fail
        go_ret2
        unfold foundI foundB
        rw [R1.out]
        exact ⟨by simp [hlt], rfl⟩
      | false =>
        rw [hq] at HN
        have hq' : (x.toList == s.toList) = false := hq
        clear hq
        go_wp2_with fail
        go_round
        case rel => exact ⟨k + 1, by omega, by go_num, HN⟩
        case measure => simp [intOf]; omega
    · have hki : ¬ ((k : Int) < 36) := by omega
      obtain rfl : k = 36 := by omega
      have R1 : Hid (found s = 36) := HF.out
      clear HF
      go_wp2_with fail
      go_ret2
      unfold foundI foundB
      rw [R1.out]
      exact ⟨by simp, rfl⟩
theorem found_in (s : ByteArray) : ∀ j k, wix s j k < k + j → eqS (wordN (wix s j k)) s = true
  | 0, k, h => by simp [wix] at h
  | j + 1, k, h => by
    unfold wix at h ⊢
    split
    · assumption
    · rename_i hq
      rw [if_neg hq] at h
      exact found_in s j (k + 1) (by omega)
theorem found_no (s : ByteArray) : ∀ j k i, k ≤ i → i < wix s j k → eqS (wordN i) s = false
  | 0, k, i, h, g => by simp [wix] at g; omega
  | j + 1, k, i, h, g => by
    unfold wix at g
    split at g
    · omega
    · rename_i hq
      by_cases e : i = k
      · subst e
        simpa using hq
      · exact found_no s j (k + 1) i (by omega) g
end Go.Proofs.YtkhhiddemihnbaaDoor.Cw
