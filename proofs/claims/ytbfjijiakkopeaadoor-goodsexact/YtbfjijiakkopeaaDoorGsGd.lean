/- Goods: asMany. -/
import Derived.Test.YtbfjijiakkopeaaDoorGsGc
import Derived.Deep.DrawnRows
namespace Go.Proofs.YtbfjijiakkopeaaDoor.Gs
open Go.RowKit Go.Shelf Go.Maps
open Go.Proofs.YtbfjijiakkopeaaDoor.Sc (One NoText flat flat_app dig own_more itoa_any row_cell)
/-- Leaves of errors. -/
abbrev Lvs := List (List ByteArray × Nat)
/-- How asMany stands: the errors so far. -/
structure Am (Ad : Nat → Addr) (w : World) (ev : Value) (us : List (Value × Lvs)) (wr : World) : Prop where
  row : wr.ownsRow w.heap.size 30 1 ev us.length (us.map Prod.fst)
  nt : ∀ g, ev.ownBlock = some g → NoText wr g
  one : ∀ u ∈ us, One Ad wr.heap.size wr u.1 u.2
  bel : Below w.heap.size w wr
section
variable {Ad : Nat → Addr} {w wr w1 w2 : World} {ev : Value} {us : List (Value × Lvs)}
theorem Am.later (h : Am Ad w ev us wr) (hb : Below wr.heap.size wr w1) : Am Ad w ev us w1 :=
  ⟨own_more h.row hb, fun g hg => (h.nt g hg).later (hb.block g (h.row.lt g hg).2), fun u hu => (h.one u hu).move hb hb.size, h.bel.trans (hb.mono h.bel.size)⟩
theorem Am.env (h : Am Ad w ev us wr) (hE : Env8 w Ad) : Env8 wr Ad := hE.later h.bel
theorem am_none (Ad : Nat → Addr) (w : World) : Am Ad w (.slice none 0 0) [] w := ⟨World.ownsRow_nil _ _ _ _, fun g hg => by simp [Value.ownBlock] at hg, fun u hu => by simp at hu, Below.refl _ _⟩
theorem Am.app {u : Value × Lvs} {g c : Nat} {o : Obj} (h : Am Ad w ev us wr) (hv : One Ad wr.heap.size wr u.1 u.2) (ow : w2.ownsRow w.heap.size 30 1 (.slice (some ⟨g, 0, none⟩) (us.length + 1) c) (us.length + 1) (us.map Prod.fst ++ [u.1])) (hg : (wr.alloc o).grownBy w2 ev.ownBlock) : Am Ad w (.slice (some ⟨g, 0, none⟩) (us.length + 1) c) (us ++ [u]) w2 := by
  have b : Below wr.heap.size wr (wr.alloc o) := bAl _ _
  have h1 := h.later b
  have hone : ∀ x ∈ us ++ [u], One Ad w2.heap.size w2 x.1 x.2 := by
    intro x hx
    have hx1 : One Ad (wr.alloc o).heap.size (wr.alloc o) x.1 x.2 := by
      rcases List.mem_append.1 hx with hx | hx
      · exact h1.one x hx
      · obtain rfl := List.mem_singleton.1 hx
        exact hv.move b b.size
    cases hq : ev.ownBlock with
    | none =>
      rw [hq] at hg
      exact hx1.move ⟨hg.os, hg.tape, hg.output, hg.size, fun k hk => hg.block k hk (by simp)⟩ hg.size
    | some k =>
      rw [hq] at hg
      exact hx1.grown hg (Nat.le_refl _) (h1.nt k hq)
  refine ⟨by simpa using ow, ?_, hone, h1.bel.grown hg h1.bel.size (fun k hk => own_block h1.row hk)⟩
  intro x hx s hs
  obtain rfl : g = x := by simpa [Value.ownBlock] using hx
  rw [ow.cellAt 0 (by omega)] at hs
  cases us with
  | nil => simp at hs; exact (hone u (by simp)).cell.2 s hs
  | cons y us => simp at hs; exact (hone y (by simp)).cell.2 s hs
end
/-- append of one error, at a step of a region that draws its order. -/
theorem step_err1 {ops : Array Oper} {o : Oper} {a : Act} {K : Act → World → Prop} {Q : Exit → Act → World → Prop} {E : Prop} (hgd : o.guard = none) (s x : Operand)
    (ho : o.op = .call { callee := .builtin .append, args := #[s, x], argTypes := #[96, 96] })
    {Ad : Nat → Addr} {w wc : World} {ev v1 : Value} {us : List (Value × Lvs)} {ls : Lvs} (hC : Am Ad w ev us wc) (hv : One Ad wc.heap.size wc v1 ls) (hul : us.length ≤ 1000)
    (hs : a.eval s = ev) (hx : a.eval x = .slice (some ⟨wc.heap.size, 0, none⟩) 1 1)
    (h : ∀ g' cap w2, Am Ad w (.slice (some ⟨g', 0, none⟩) (us.length + 1) cap) (us ++ [(v1, ls)]) w2 → K (a.put o.dst (.slice (some ⟨g', 0, none⟩) (us.length + 1) cap)) w2) :
    if Region.wanted o (yielded ops a.tmps) = true then Oper.wp Tryd.prog o a (wc.alloc (.cells #[v1] 30)) K Q else E := by
  obtain ⟨i0, hi, hz0, hz1, hz2⟩ := info_parts Tryd.infoErr
  have hown : (wc.alloc (.cells #[v1] 30)).ownsRow w.heap.size 30 1 ev us.length (us.map Prod.fst) := hC.row.alloc _
  refine step_append_lies _ hgd s x 96 ho w.heap.size 30 i0 .nilIface 1 16 Tryd.underlying96 hi hz0 hz1 hz2 rfl (by decide) ev us.length (us.map Prod.fst) hs hown ⟨wc.heap.size, 0, none⟩ 1 1 [v1] hx rfl (fun j u hu => by rw [add_at]; exact row_cell wc [v1] 30 j u hu) (by intro u hu; simp at hu; subst hu; exact hv.cell.1) (by decide) (by unfold maxLen; omega) (by omega) (Nat.le_trans hC.bel.size (by simp)) (wc.alloc (.cells #[v1] 30)).heap.size rfl ?_
  intro g' cap w2 ow hg _ _
  exact h g' cap w2 (hC.app (u := (v1, ls)) hv ow hg)
/-- What is wrong where there are p places and m values. -/
def amL (m p : Nat) : Lvs := ((List.range' m (p - m)).map fun i => ([dig i], 1)) ++ if p < m then [([dig p], 1)] else []
def amU (m k : Nat) : Lvs := (List.range' m (k - m)).map fun i => ([dig i], 1)
theorem amU_next {m k : Nat} (h : m ≤ k) : amU m (k + 1) = amU m k ++ [([dig k], 1)] := by
  unfold amU
  rw [show k + 1 - m = (k - m) + 1 by omega, List.range'_1_concat, List.map_append, show m + (k - m) = k by omega]
  rfl
theorem at_leaf (Ad : Nat → Addr) (s : ByteArray) (w : World) : Calls Tryd.prog 34 #[.string s, .iface 154 (.pointer (some (Ad 1)))] w fun e w' => ∃ t q, e = .returned (.iface t q) ∧ One Ad w'.heap.size w' (.iface t q) [([s], 1)] ∧ Below w.heap.size w w' := by
  refine (at_chain Ad s 2 _ ([], 1) w ⟨rfl, by decide, by decide, by decide⟩).mono ?_
  rintro e w' ⟨v', rfl, hc, hb⟩
  obtain ⟨t, q, rfl, _⟩ := hc.1.shape
  exact ⟨t, q, rfl, .inr ⟨_, rfl, hc⟩, hb⟩
theorem itoa_w (i : Nat) (hi : i < 100) (w : World) : Calls Tryd.prog 54 #[.int .i64 (i : Int)] w fun e w' => e = .returned (.string (dig i)) ∧ w' = w := itoa_any i hi w
set_option maxHeartbeats 4000000 in
set_option maxRecDepth 100000 in
theorem many_any (Ad : Nat → Addr) (w : World) (hE : Env8 w Ad) (m p : Nat) (hp : p ≤ 40) (hm : m ≤ 1000) :
    Calls Tryd.prog 37 #[.int .i64 (m : Int), .int .i64 (p : Int)] w fun e w' => ∃ v', e = .returned v' ∧ Top Ad w'.heap.size w' 3 v' (amL m p) ∧ Below w.heap.size w w' := by
  have HE := hid hE
  clear hE
  have hpi : (p : Int) ≤ 40 := by omega
  have hmi : (m : Int) ≤ 1000 := by omega
  go_enter Tryd.func37, Tryd.ntmps37
  go_wp2_with fail
  go_loopw [5, 6] (fun ev i wr => ∃ (k : Nat) (us : List (Value × Lvs)), m ≤ k ∧ (k ≤ p ∨ k = m) ∧ i = .int .i64 (k : Int) ∧ Hid (Am Ad w ev us wr ∧ us.length = k - m ∧ flat us = amU m k)) (fun _ i _ => p - (intOf i).toNat)
  case atStart => exact ⟨m, [], Nat.le_refl _, .inr rfl, rfl, am_none Ad w, by simp, by simp [flat, amU]⟩
  case round =>
    obtain ⟨k, us, hmk, hkp, rfl, HK⟩ := hrel
    obtain ⟨ha, hul, hfl⟩ := HK.out
    have c1 := (ha.env HE.out).k1
    have hk1 : (k : Int) ≤ 1000 := by omega
    by_cases hlt : k < p
    · have hki : (k : Int) < (p : Int) := by omega
      have hus : us.length ≤ 1000 := by omega
      have had : Am Ad w _ us wr.drew := ha.later (Below.refl _ _).drew
      have HU := hid hul
      have HF := hid hfl
      have KK : Hid (∀ W', Below wr.heap.size wr W' → W'.cell? ⟨2, 0, none⟩ = some (.iface 154 (.pointer (some (Ad 1))))) := fun W' hb => ((ha.later hb).env HE.out).k1
      clear hul hfl HK
      go_upto_region 5 with fail
      go_region_held3 (fun W' => W'.cell? ⟨2, 0, none⟩ = some (.iface 154 (.pointer (some (Ad 1))))) (first | go_keep | exact (Am.env (by assumption) HE.out).k1 | exact KK.out _ (Below.refl _ _).drew | exact KK.out _ (Below.refl _ _)) (first
        | (go_at_call 54; refine (itoa_w k (by omega) _).mono ?_; rintro e w' ⟨rfl, rfl⟩)
        | (go_at_call 34; refine (at_leaf Ad (dig k) _).mono ?_; rintro e w8 ⟨t8, q8, rfl, o8, hb8⟩; have h8 := Am.later (by assumption) hb8)
        | (refine step_err1 (by rfl) _ _ (by rfl) (by assumption) (by assumption) hus (by rfl) (by rfl) ?_; intro g9 cap9 w10 hk10))
      have NX : Hid (Am Ad w (.slice (some ⟨g9, 0, none⟩) (us.length + 1) cap9) (us ++ [(.iface t8 q8, [([dig k], 1)])]) w10 ∧ (us ++ [((.iface t8 q8 : Value), [([dig k], 1)])]).length = k + 1 - m ∧ flat (us ++ [((.iface t8 q8 : Value), [([dig k], 1)])]) = amU m (k + 1)) := by
        refine ⟨hk10, ?_, ?_⟩
        · rw [List.length_append, HU.out]; simp; omega
        · rw [flat_app, HF.out, amU_next hmk]; rfl
      clear hk10 h8 o8 hb8 had ha c1 KK HU HF
      go_wp2_with fail
      go_roundw
      case rel => exact ⟨k + 1, _, by omega, .inl (by omega), by go_num, NX.out⟩
      case measure => simp [intOf]; omega
    · have hki : ¬ (k : Int) < (p : Int) := by omega
      by_cases hpm : p < m
      · have hpmi : (p : Int) < (m : Int) := by omega
        obtain rfl : k = m := by omega
        obtain rfl : us = [] := List.length_eq_zero_iff.1 (by omega)
        have had : Am Ad w _ [] wr.drew := ha.later (Below.refl _ _).drew
        have KK : Hid (∀ W', Below wr.heap.size wr W' → W'.cell? ⟨2, 0, none⟩ = some (.iface 154 (.pointer (some (Ad 1))))) := fun W' hb => ((ha.later hb).env HE.out).k1
        have hus : ([] : List (Value × Lvs)).length ≤ 1000 := by simp
        clear hul hfl HK hkp hmk
        go_upto_region 7 with fail
        go_region_held3 (fun W' => W'.cell? ⟨2, 0, none⟩ = some (.iface 154 (.pointer (some (Ad 1))))) (first | go_keep | exact (Am.env (by assumption) HE.out).k1 | exact KK.out _ (Below.refl _ _).drew | exact KK.out _ (Below.refl _ _)) (first
          | (go_at_call 54; refine (itoa_w p (by omega) _).mono ?_; rintro e w' ⟨rfl, rfl⟩)
          | (go_at_call 34; refine (at_leaf Ad (dig p) _).mono ?_; rintro e w8 ⟨t8, q8, rfl, o8, hb8⟩; have h8 := Am.later (by assumption) hb8)
          | (refine step_err1 (by rfl) _ _ (by rfl) (by assumption) (by assumption) hus (by rfl) (by rfl) ?_; intro g9 cap9 w10 hk10))
        have AL := hid (all_top Ad 3 _ _ w10 (own_errs (by have := hk10.row; simpa using this)) (fun u hu => (hk10.one u hu).top) (by simp) (by simp))
        have HB := hid hk10.bel
        have R : Hid (((([] : List (Value × Lvs)) ++ [((.iface t8 q8 : Value), [([dig p], 1)])]).map Prod.snd).flatten = amL k p) := by
          show _ = _
          unfold amL
          rw [if_pos hpm, show p - k = 0 by omega]
          rfl
        rw [R.out] at AL
        clear hk10 h8 o8 hb8 had ha c1 KK R
        go_wp2_with fail
        refine AL.out.mono ?_
        rintro e w9 ⟨v9, rfl, t9, hb9⟩
        have T9 := hid t9
        have B9 := hid (HB.out.trans (hb9.mono HB.out.size))
        clear t9 hb9 AL
        go_wp2_with fail
        go_ret
        exact ⟨v9, rfl, T9.out, B9.out⟩
      · have hpmi : ¬ (p : Int) < (m : Int) := by omega
        obtain rfl : k = p := by omega
        have AL := hid (all_top Ad 3 _ us wr (own_errs (by have := ha.row; simpa using this)) (fun u hu => (ha.one u hu).top) (by omega) (by show (flat us).length ≤ 1000; rw [hfl]; unfold amU; simp; omega))
        have HB := hid ha.bel
        have R : Hid ((us.map Prod.snd).flatten = amL m k) := by
          show flat us = _
          rw [hfl]
          unfold amL amU
          rw [if_neg hpm, List.append_nil]
        rw [R.out] at AL
        obtain ⟨pa, pc, rfl⟩ := own_slice ha.row
        clear hfl HK ha R c1 hul hkp hmk
        go_wp2_with fail
        refine AL.out.mono ?_
        rintro e w9 ⟨v9, rfl, t9, hb9⟩
        have T9 := hid t9
        have B9 := hid (HB.out.trans (hb9.mono HB.out.size))
        clear t9 hb9 AL
        go_wp2_with fail
        go_ret
        exact ⟨v9, rfl, T9.out, B9.out⟩
end Go.Proofs.YtbfjijiakkopeaaDoor.Gs
