/- TallyParts: the walk. -/
import Derived.Test.YtieelgikhbnalaaTh
namespace Go.Proofs.Ytieelgikhbnalaa
open Go.ChangeShapes Go.WideShapes Go.ChangeAt Go.RowKit
theorem extract_list (s : ByteArray) (a b : Nat) : (s.extract a b).data.toList = (s.data.toList.drop a).take (b - a) := by
  simp [ByteArray.data_extract, Array.toList_extract, List.extract_eq_take_drop]
theorem Tal.set {w : World} {b : Nat} {h : Int} (hT : Tal w b h) (g : Int) : Tal (w.setCell ⟨b, 0, none⟩ (.int .u64 g)) b g := blk_set hT 0 (.int .u64 g)
theorem Tal.lt {w : World} {b : Nat} {h : Int} (hT : Tal w b h) : b < w.heap.size := (Array.getElem?_eq_some_iff.1 hT).1
theorem cat_take (l : List ByteArray) (k : Nat) (s : ByteArray) (h : l[k]? = some s) : cat (l.take (k + 1)) = cat (l.take k) ++ s.data.toList := by rw [take_next h, cat_snoc]
theorem app_list (s t : ByteArray) : (s ++ t).data.toList = s.data.toList ++ t.data.toList := by simp [ByteArray.data_append]
theorem below_alloc {wr W : World} (h : Below wr.heap.size wr W) (o : Obj) : Below wr.heap.size wr (W.alloc o) := h.alloc h.size o
theorem below_drew {wr W : World} (h : Below wr.heap.size wr W) : Below wr.heap.size wr W.drew := h.drewN 1
theorem cell_new (W : World) (arr : Array Value) (T : TypeId) (b i : Nat) (hb : b = W.heap.size) : (W.alloc (.cells arr T)).cell? ⟨b, i, none⟩ = arr[i]? := by
  subst hb; exact blk_cell (blk_new W _) i
theorem cell_old (W : World) (o : Obj) (b i : Nat) (hb : b < W.heap.size) : (W.alloc o).cell? ⟨b, i, none⟩ = W.cell? ⟨b, i, none⟩ :=
  Below.cell ((Below.refl W.heap.size W).alloc (Nat.le_refl _) o) (p := ⟨b, i, none⟩) hb
theorem cell_drew (W : World) (b i : Nat) : W.drew.cell? ⟨b, i, none⟩ = W.cell? ⟨b, i, none⟩ := rfl
theorem fin {w w' wr W : World} (h1 : Below w.heap.size w w') (h2 : Below w'.heap.size w' wr) (h3 : Below wr.heap.size wr W) : Below w.heap.size w W := h1.trans ((h2.trans (h3.mono h2.size)).mono h1.size)
/-- A row of texts whose sum is h. -/
structure Fit (h : Int) (W : World) (v : Value) : Prop where
  ex : ∃ l : List ByteArray, Strs W v l ∧ l.length ≤ 140737488355328 ∧ (∀ s ∈ l, s.size ≤ 140737488355328) ∧ ovT st (cat l) = h
theorem of_fit (h : Int) (W : World) (v : Value) (hf : Fit h W v) : Calls Try.prog 16 #[v] W fun e w' => e = .returned (.int .u64 h) ∧ w' = W := by
  obtain ⟨l, h1, h2, h3, rfl⟩ := hf.ex
  exact of_any v l W h2 h3 h1
theorem fit_one (s : ByteArray) (b c : Nat) (w : World) (hs : s.size ≤ 140737488355328) (hc : w.cell? ⟨b, 0, none⟩ = some (.string s)) : Fit (ovT st s.data.toList) w (.slice (some ⟨b, 0, none⟩) 1 c) :=
  ⟨[s], ⟨_, _, rfl, .inr ⟨_, _, rfl, fun j t ht => by cases j <;> simp at ht; subst ht; exact hc⟩⟩, by simp, by simpa using hs, by rw [cat_one]⟩
theorem fit_two (s t : ByteArray) (b c : Nat) (w : World) (hs : s.size ≤ 140737488355328) (ht : t.size ≤ 140737488355328) (h0 : w.cell? ⟨b, 0, none⟩ = some (.string s)) (h1 : w.cell? ⟨b, 1, none⟩ = some (.string t)) :
    Fit (ovT st (s.data.toList ++ t.data.toList)) w (.slice (some ⟨b, 0, none⟩) 2 c) :=
  ⟨[s, t], ⟨_, _, rfl, .inr ⟨_, _, rfl, fun j u hu => by
    match j, hu with
    | 0, hu => simp at hu; subst hu; exact h0
    | 1, hu => simp at hu; subst hu; exact h1⟩⟩, by simp, by simp [hs, ht], by simp [cat]⟩
set_option maxHeartbeats 1600000 in
set_option maxRecDepth 100000 in
theorem parts_any (v : Value) (l : List ByteArray) (at_ : Int) (w : World) (hl : l.length ≤ 60) (hs : ∀ s ∈ l, s.size ≤ 4096) (hv : RowV w v (l.map sv)) :
    Calls Try.prog 4 #[v, .int .i64 at_] w fun e w' => e = .returned (.bool true) ∧ Below w.heap.size w w' := by
  obtain ⟨a, c, hva, -⟩ := hv.plain
  rw [List.length_map] at hva
  subst hva
  have HV := hid hv
  have hg : (l.any fun s => decide (4096 < s.size)) = false := by
    rw [List.any_eq_false]; intro s h; have := hs s h; simpa using this
  have HS := hid hs
  clear hv hs
  go_enter Try.func4, Try.ntmps4
  go_wp2_with fail
  refine (awake_any _).mono ?_
  rintro e w1 ⟨rfl, hb1⟩
  have V1 := hid (HV.out.later hb1 (Nat.le_refl _))
  have W1 := hid hb1
  clear HV hb1
  go_wp2_with fail
  refine (great_any _ l _ hl (fun s h => by have := HS.out s h; unfold maxLen; omega) V1.out.strs).mono ?_
  rw [hg]
  rintro e w' ⟨rfl, rfl⟩
  go_wp2_with fail
  refine (new_any _).mono ?_
  rintro e w' ⟨rfl, rfl⟩
  go_wp2_with fail
  have T0 := hid (blk_new w' (.cells #[.int .u64 st] 49))
  have B0 := hid ((Below.refl w'.heap.size w').alloc (Nat.le_refl _) (.cells #[.int .u64 st] 49))
  go_loopw [5, 7] (fun s i wr => ∃ (k : Nat) (x : ByteArray), k ≤ l.length ∧ i = .int .i64 k ∧ s = .string x ∧ x.data.toList = cat (l.take k) ∧ Tal wr w'.heap.size (ovT st (cat (l.take k))) ∧ Below w'.heap.size w' wr) (fun _ i _ => l.length - (intOf i).toNat)
  case atStart => exact ⟨0, ⟨#[]⟩, Nat.zero_le _, rfl, rfl, rfl, T0.out, B0.out⟩
  case round =>
    obtain ⟨k, x, hk, rfl, rfl, hx, hT, hb⟩ := hrel
    have VR := hid (V1.out.later hb (Nat.le_refl _))
    have HT := hid hT
    have HB := hid hb
    have HX := hid hx
    have hsz : x.size ≤ 245760 := by
      have h1 := cat_len (l.take k) 4096 (fun s h => HS.out s (List.mem_of_mem_take h))
      have h2 : x.size = (cat (l.take k)).length := by rw [← hx]; simp
      have h3 : (l.take k).length ≤ 60 := by simp; omega
      have h4 : 4096 * (l.take k).length ≤ 4096 * 60 := Nat.mul_le_mul_left _ h3
      omega
    clear hx hT hb
    by_cases hlt : k < l.length
    · obtain ⟨s, hsk⟩ := at_lt l k hlt
      obtain ⟨_, _, hva2, hcs⟩ := VR.out.strs
      obtain ⟨b, o, rfl, hc⟩ := hcs.resolve_left (by rintro rfl; simp at hlt)
      simp only [Value.slice.injEq, true_and] at hva2
      obtain ⟨rfl, rfl⟩ := hva2
      have c1 := hc k s hsk
      have hz := HS.out s (List.mem_of_getElem? hsk)
      have HN := hid (cat_take l k s hsk)
      have hss : ¬ (9223372036854775807 < x.size + s.size) := by omega
      clear hc hsk
      go_wp2_with (go_at_call 11; refine (add_any _ _ s _ (by omega) HT.out).mono ?_; rintro e w2 ⟨rfl, rfl⟩)
      go_roundw
      case rel => exact ⟨k + 1, x ++ s, by omega, by go_num, rfl, by rw [app_list, HX.out, HN.out], by rw [HN.out, ovT_app]; exact HT.out.set _, HB.out.setCell (by simp) _⟩
      case measure => simp [intOf]; omega
    · have ek : l.take k = l := List.take_of_length_le (by omega)
      rw [ek] at HX HT
      clear ek
      obtain ⟨kk, hkk, hka⟩ := rem_nat at_ (x.size + 1) (by omega) (by omega)
      have hka' : wrap64 ((IntKind.u64.wrap at_).tmod ((x.size : Int) + 1)) = kk := by rw [← hka]; simp
      clear hka
      obtain ⟨h, hh⟩ : ∃ h, h = ovT st (cat l) := ⟨_, rfl⟩
      have HX2 := hid (show ovT st x.data.toList = h by rw [HX.out, hh])
      have c0 := blk_cell HT.out 0
      rw [← hh] at c0
      have c0 : wr.cell? ⟨w'.heap.size, 0, none⟩ = some (.int .u64 h) := c0
      have htl := HT.out.lt
      have cS := hid (fun (W : World) (hb : Below wr.heap.size wr W) => sum_a w'.heap.size h W ((hb.cell (p := ⟨w'.heap.size, 0, none⟩) htl).trans c0))
      have cO := hid (fun (W : World) (b : Nat) (hc : W.cell? ⟨b, 0, none⟩ = some (.string x)) => fit_one x b 1 W (by omega) hc)
      have cL := hid (fun (W : World) (hb : Below wr.heap.size wr W) => (⟨l, (VR.out.later hb (Nat.le_refl _)).strs, by omega, fun s hs => by have := HS.out s hs; omega, hh.symm⟩ : Fit h W (.slice a l.length c)))
      have cT := hid (fun (W : World) (b : Nat) (h0 : W.cell? ⟨b, 0, none⟩ = some (.string (x.extract 0 kk))) (h1 : W.cell? ⟨b, 1, none⟩ = some (.string (x.extract kk x.size))) => fit_two (x.extract 0 kk) (x.extract kk x.size) b 2 W (by simp; omega) (by simp; omega) h0 h1)
      have ecat : (x.extract 0 kk).data.toList ++ (x.extract kk x.size).data.toList = x.data.toList := by
        rw [extract_list, extract_list, List.drop_zero, Nat.sub_zero, List.take_of_length_le (l := x.data.toList.drop kk) (by simp), List.take_append_drop]
      simp only [ecat, HX2.out] at cT
      simp only [HX2.out] at cO
      have hbs : Below wr.heap.size wr wr := Below.refl _ _
      clear ecat HX2 hh c0 HX HT V1 T0 B0 HS hg
      go_wp2_with fail
      rw [hka']
      clear hka'
      have hk0 : (0 : Int) ≤ (kk : Int) := by omega
      have hk1 : (kk : Int) ≤ (x.size : Int) := by omega
      go_region_held3 (fun W => Below wr.heap.size wr W) (first | assumption | exact below_drew (by assumption) | exact below_alloc (by assumption) _) (first
        | (go_at_call 12; refine (cS.out _ ?_).mono ?_; assumption; rintro e w2 ⟨rfl, rfl⟩)
        | (go_at_call 16; refine (of_fit h _ _ ?_).mono ?_; (first | (refine cL.out _ ?_; assumption) | (refine cO.out _ _ ?_; ((try rw [cell_drew]); first | (rw [cell_new _ _ _ _ _ (by simp)]; rfl) | (rw [cell_old _ _ _ _ (by simp), cell_new _ _ _ _ _ (by simp)]; rfl))) | (refine cT.out _ _ ?_ ?_ <;> ((try rw [cell_drew]); first | (rw [cell_new _ _ _ _ _ (by simp)]; rfl) | (rw [cell_old _ _ _ _ (by simp), cell_new _ _ _ _ _ (by simp)]; rfl)))); rintro e w2 ⟨rfl, rfl⟩))
      all_goals go_wp2
      all_goals go_ret
      all_goals exact ⟨rfl, fin W1.out HB.out (by first | assumption | exact below_drew (by assumption) | exact below_alloc (by assumption) _ | (refine below_drew ?_; repeat (first | exact Below.refl _ _ | refine below_alloc ?_ _)))⟩
theorem parts_out (v : Value) (l : List ByteArray) (at_ : Int) (w : World) (hm : l.length ≤ maxLen) (hs : ∀ s ∈ l, s.size ≤ maxLen) (h : 60 < l.length ∨ ∃ s ∈ l, 4096 < s.size) (hv : RowV w v (l.map sv)) :
    Calls Try.prog 4 #[v, .int .i64 at_] w fun e w' => e = .returned (.bool true) ∧ Below w.heap.size w w' := by
  have hg : ∀ W, Strs W v l → Calls Try.prog 19 #[v] W fun e w' => e = .returned (.bool true) ∧ w' = W := by
    intro W hW
    by_cases h1 : 60 < l.length
    · exact great_yes v l W h1 hm hW
    · obtain ⟨s, h2, h3⟩ := h.resolve_left h1
      have := great_any v l W (by omega) hs hW
      rwa [show (l.any fun s => decide (4096 < s.size)) = true from List.any_eq_true.2 ⟨s, h2, by simpa using h3⟩] at this
  have HG := hid hg
  have HV := hid hv
  obtain ⟨a, c, hva, -⟩ := hv.plain
  rw [List.length_map] at hva
  clear hg hv h hs hm
  subst hva
  go_enter Try.func4, Try.ntmps4
  go_wp2_with fail
  refine (awake_any _).mono ?_
  rintro e w1 ⟨rfl, hb1⟩
  have W1 := hid hb1
  have V1 := hid (HV.out.later hb1 (Nat.le_refl _))
  clear hb1
  go_wp2_with fail
  refine (HG.out _ V1.out.strs).mono ?_
  rintro e w' ⟨rfl, rfl⟩
  go_wp2_with fail
  go_ret
  exact ⟨rfl, W1.out⟩
end Go.Proofs.Ytieelgikhbnalaa
