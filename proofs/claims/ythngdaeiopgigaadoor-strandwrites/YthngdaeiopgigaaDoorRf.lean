/- Contracts of strand's reader: Text. -/
import Derived.Test.YthngdaeiopgigaaDoorRe
namespace Go.Proofs.YthngdaeiopgigaaDoor
open Go.ChangeShapes Go.WideShapes Go.ChangeAt Go.RowKit
def RS.text (aF : Addr) (m : Int) (st : RS) : List UInt8 × RS := match st.err with
  | some _ => ([], st)
  | none => match ung st.rest with
    | some (n, t) => if 0 ≤ m ∧ (n : Int) ≤ m ∧ n ≤ t.length then (t.take n, ⟨t.drop n, none⟩) else ([], st.fail nmText aF)
    | none => ([], st.fail nmText aF)
set_option maxHeartbeats 1600000 in
set_option maxRecDepth 100000 in
theorem rtext_any (b : Nat) (st : RS) (m : Int) (hm : I64 m) (aF : Addr) (w : World) (hR : Rd w b st) (hp : RPre w st aF) :
    Calls Tryd.prog 30 #[.pointer (some ⟨b, 0, none⟩), .int .i64 m] w fun e w' => (∃ s : ByteArray, e = .returned (.string s) ∧ s.data.toList = (st.text aF m).1) ∧ Rd w' b (st.text aF m).2 ∧ Kp (fun k => k = b) w w' := by
  obtain ⟨l, err⟩ := st
  cases err with
  | some q =>
    obtain ⟨s', a⟩ := q
    have c1 := hR.c1_yes
    rw [show RS.text aF m ⟨l, some (s', a)⟩ = ([], ⟨l, some (s', a)⟩) from rfl]
    clear hm
    go_enter Tryd.func30, Tryd.ntmps30
    go_wp2_with (go_at_call 53; refine (rclosed_yes _ a _ ?_).mono ?_; exact c1; rintro e w' ⟨rfl, rfl⟩)
    go_ret
    exact ⟨⟨_, rfl, rfl⟩, hR, Kp.refl _ _⟩
  | none =>
    have c1 := hR.c1_no
    obtain ⟨r, hr, hb⟩ := id hR
    simp only at hr
    subst hr
    have c2 : w.cell? ⟨b, 2, none⟩ = some (.string r) := blk_cell hb 2
    have hrl : r.size ≤ 10000000 := by simpa using hp.hl
    have hF := hp.hF
    cases hu : ung r.data.toList with
    | none =>
      have hur := ungR_eq_none hu
      rw [show RS.text aF m ⟨r.data.toList, none⟩ = ([], ⟨r.data.toList, some (nmText, aF)⟩) from by simp [RS.text, hu, RS.fail]]
      clear hu hm
      go_enter Tryd.func30, Tryd.ntmps30
      go_wp2_with (first | (go_at_call 53; refine (rclosed_no _ _ ?_).mono ?_; exact c1; rintro e w' ⟨rfl, rfl⟩) | (go_at_call 58; refine (ungroup_any r hrl _).mono ?_; rw [hur]; rintro e w' ⟨rfl, rfl⟩) | (go_at_call 54; refine (refuse_any b _ nmText aF _ hR hF).mono ?_; rintro e w' ⟨rfl, hR', hK'⟩))
      go_ret
      exact ⟨⟨_, rfl, rfl⟩, hR', hK'⟩
    | some q =>
      obtain ⟨n, t⟩ := q
      have hur := ungR_eq_some hu
      obtain ⟨hs1, hs2⟩ := ung_sound hu
      have hpos := grp_pos n
      have hlen := grp_len10 hs2
      have htl : r.size = (grp n).length + t.length := by
        have := congrArg List.length hs1
        simpa using this
      have hk : (grp n).length ≤ r.size := by omega
      have ht : (r.extract (grp n).length r.size).data.toList = t := by rw [extract_rest]; exact drop_grp hs1
      have hz : (((grp n).length : Int) == 0) = false := beq_eq_false_iff_ne.2 (by omega)
      have HT : Hid ((r.extract (grp n).length r.size).data.toList = t) := ht
      have hwl : IntKind.u64.wrap ((r.size : Int) - (grp n).length) = t.length := by rw [IntKind.wrap_u64]; omega
      have hm0 := hm
      obtain ⟨hm1, hm2⟩ := hm
      by_cases hneg : m < 0
      · rw [show RS.text aF m ⟨r.data.toList, none⟩ = ([], ⟨r.data.toList, some (nmText, aF)⟩) from by simp [RS.text, hu, RS.fail]; omega]
        clear hu hs1 hs2 ht hm0 hm1 hm2 hwl htl
        go_enter Tryd.func30, Tryd.ntmps30
        go_wp2_with (first | (go_at_call 53; refine (rclosed_no _ _ ?_).mono ?_; exact c1; rintro e w' ⟨rfl, rfl⟩) | (go_at_call 58; refine (ungroup_any r hrl _).mono ?_; rw [hur]; rintro e w' ⟨rfl, rfl⟩) | (go_at_call 54; refine (refuse_any b _ nmText aF _ hR hF).mono ?_; rintro e w' ⟨rfl, hR', hK'⟩))
        go_ret
        exact ⟨⟨_, rfl, rfl⟩, hR', hK'⟩
      · have hwm : IntKind.u64.wrap m = m := by rw [IntKind.wrap_u64]; omega
        have hneg2 : ¬ (m < 0) := hneg
        by_cases hbig : m < (n : Int)
        · rw [show RS.text aF m ⟨r.data.toList, none⟩ = ([], ⟨r.data.toList, some (nmText, aF)⟩) from by simp [RS.text, hu, RS.fail]; omega]
          clear hu hs1 hs2 ht hm0 hm1 hm2 htl hwl
          go_enter Tryd.func30, Tryd.ntmps30
          go_wp2_with (first | (go_at_call 53; refine (rclosed_no _ _ ?_).mono ?_; exact c1; rintro e w' ⟨rfl, rfl⟩) | (go_at_call 58; refine (ungroup_any r hrl _).mono ?_; rw [hur]; rintro e w' ⟨rfl, rfl⟩) | (go_at_call 54; refine (refuse_any b _ nmText aF _ hR hF).mono ?_; rintro e w' ⟨rfl, hR', hK'⟩))
          go_ret
          exact ⟨⟨_, rfl, rfl⟩, hR', hK'⟩
        · by_cases hlong : t.length < n
          · rw [show RS.text aF m ⟨r.data.toList, none⟩ = ([], ⟨r.data.toList, some (nmText, aF)⟩) from by simp [RS.text, hu, RS.fail]; omega]
            clear hu hs1 hs2 ht hm0 hm1 hm2
            have htl2 : ((grp n).length : Int) ≤ r.size := by omega
            have hlong2 : (t.length : Int) < n := by omega
            clear htl
            go_enter Tryd.func30, Tryd.ntmps30
            go_wp2_with (first | (go_at_call 53; refine (rclosed_no _ _ ?_).mono ?_; exact c1; rintro e w' ⟨rfl, rfl⟩) | (go_at_call 58; refine (ungroup_any r hrl _).mono ?_; rw [hur]; rintro e w' ⟨rfl, rfl⟩) | (go_at_call 54; refine (refuse_any b _ nmText aF _ hR hF).mono ?_; rintro e w' ⟨rfl, hR', hK'⟩))
            go_ret
            exact ⟨⟨_, rfl, rfl⟩, hR', hK'⟩
          · rw [show RS.text aF m ⟨r.data.toList, none⟩ = (t.take n, ⟨t.drop n, none⟩) from by simp only [RS.text, hu]; rw [if_pos (by omega)]]
            have hn2 : n ≤ (r.extract (grp n).length r.size).size := by
              have := congrArg List.length ht
              simp at this ⊢; omega
            have hwn : wrap64 (n : Int) = n := IntWalk.wrap64_in _ (by omega)
            have hlong2 : (n : Int) ≤ t.length := by omega
            have hres : (((r.extract (grp n).length r.size).extract 0 n)).data.toList = t.take n := by rw [extract_list, ht]; simp
            have hrest : ((r.extract (grp n).length r.size).extract n (r.extract (grp n).length r.size).size).data.toList = t.drop n := by rw [extract_rest, ht]
            have T1 := take_any b (grp n).length r w hb hk
            have hbx : (w.setCell ⟨b, 2, none⟩ (.string (r.extract (grp n).length r.size))).heap[b]? = some (.cells #[.string ⟨#[]⟩, .nilIface, .string (r.extract (grp n).length r.size)] 72 (0, 0)) := by rw [blk_set hb 2 _]; rfl
            have hK1 : Kp (fun j => j = b) w (w.setCell ⟨b, 2, none⟩ (.string (r.extract (grp n).length r.size))) := Kp.setCell (X := fun j => j = b) (Kp.refl _ _) (fun _ => rfl) _
            clear HT
            generalize r.extract (grp n).length r.size = r2 at *
            have T2 := take_any b n r2 _ hbx hn2
            have HR1 := hid hres
            have HR2 := hid hrest
            have HT1 := hid T1
            have HT2 := hid T2
            have HB := hid hbx
            clear hu hs1 hs2 ht hm0 hm1 hm2 htl hres hrest T1 T2 hbx hn2
            go_enter Tryd.func30, Tryd.ntmps30
            go_wp2_with (first | (go_at_call 53; refine (rclosed_no _ _ ?_).mono ?_; exact c1; rintro e w' ⟨rfl, rfl⟩) | (go_at_call 58; refine (ungroup_any r hrl _).mono ?_; rw [hur]; rintro e w' ⟨rfl, rfl⟩))
            refine HT1.out.mono ?_
            rintro e w' ⟨rfl, rfl⟩
            go_wp2_with fail
            refine HT2.out.mono ?_
            rintro e w' ⟨rfl, rfl⟩
            go_wp2
            go_ret
            obtain ⟨h1, h2⟩ := rd_took HB.out HR2.out
            exact ⟨⟨_, rfl, HR1.out⟩, h1, hK1.trans h2⟩
end Go.Proofs.YthngdaeiopgigaaDoor
