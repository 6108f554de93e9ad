/- Contracts: an item is written. -/
import Derived.Test.YthngdaeiopgigaaDoorWg
namespace Go.Proofs.YthngdaeiopgigaaDoor
open Go.ChangeShapes Go.WideShapes Go.ChangeAt Go.RowKit
/-- An item, as data. -/
structure Itm where
  kind : Int
  N : Int
  text : ByteArray
  fl : List Bool
/-- An item that the law asks of. -/
structure Itm.Ok (x : Itm) : Prop where
  hk : 1 ≤ x.kind ∧ x.kind ≤ 6
  hN : I64 x.N
  ht : x.text.size ≤ 1000
  hf : x.fl.length ≤ 1000
/-- An item that can be written. -/
structure Itm.Fit (x : Itm) : Prop where
  hk : 1 ≤ x.kind ∧ x.kind ≤ 6
  hN : I64 x.N
  ht : x.text.size ≤ 10000
  hf : x.fl.length ≤ 100000
theorem Itm.Ok.fit {x : Itm} (h : x.Ok) : x.Fit := ⟨h.hk, h.hN, Nat.le_trans h.ht (by decide), Nat.le_trans h.hf (by decide)⟩
def Itm.val (x : Itm) (fv : Value) : Value := .agg #[.int .i64 x.kind, .int .i64 x.N, .string x.text, fv]
def Itm.nm (x : Itm) : ByteArray := if x.kind = 1 then nmByte else if x.kind = 2 then nmCount else if x.kind = 3 then nmNum else if x.kind = 4 then nmText else if x.kind = 5 then nmBits else nmFlags
def Itm.enc (x : Itm) : Option (List UInt8) := if x.kind = 1 then encByte x.N else if x.kind = 2 then encCount x.N else if x.kind = 3 then some (grp (zig x.N)) else if x.kind = 4 then some (grp x.text.size ++ x.text.data.toList) else if x.kind = 5 then some (grp (x.N % 4294967296).toNat) else some (packL x.fl)
theorem Bools.later {w w' : World} {v : Value} {fl : List Bool} (h : Bools w v fl) (hb : Below w.heap.size w w') : Bools w' v fl := by
  obtain ⟨fa, fc, h1, h2⟩ := h
  refine ⟨fa, fc, h1, ?_⟩
  rcases h2 with h2 | ⟨b, o, h3, h4⟩
  · exact .inl h2
  · exact .inr ⟨b, o, h3, fun j hj => (hb.cell (p := ⟨b, o + j, none⟩) (World.block_lt_of_cell? w _ (h4 j hj))).trans (h4 j hj)⟩
set_option maxHeartbeats 1600000 in
set_option maxRecDepth 100000 in
theorem put_any (b : Nat) (st : WS) (x : Itm) (fv : Value) (hx : x.Fit) (aA aL : Addr) (w : World) (hW : Wr w b st) (hp : WPre w st aA aL) (hF : Bools w fv x.fl) :
    Calls Tryd.prog 12 #[.pointer (some ⟨b, 0, none⟩), x.val fv] w fun e w' => e = .returned (.tuple #[]) ∧ Wr w' b (st.putB aA aL x.nm x.enc) ∧ Stp b w w' := by
  obtain ⟨kd, N, text, fl⟩ := x
  obtain ⟨⟨hk1, hk2⟩, hN, ht, hf⟩ := hx
  obtain ⟨fa, fc, rfl, hF2⟩ := id hF
  simp only [Itm.val] at *
  have hbel : Below w.heap.size w (w.alloc (.cells #[.int .i64 kd, .int .i64 N, .string text, .slice fa fl.length fc] 30)) := (Below.refl _ _).alloc (Nat.le_refl _) _
  have hW1 := hW.new hbel
  have hp1 := hp.new hbel
  have hF1 := hF.later hbel
  have fin : ∀ w' st', (Wr w' b st' ∧ Stp b (w.alloc (.cells #[.int .i64 kd, .int .i64 N, .string text, .slice fa fl.length fc] 30)) w') → Wr w' b st' ∧ Stp b w w' := fun w' st' h => ⟨h.1, (Stp.new hbel hW.foots.lt).trans h.2⟩
  have ht2 : text.size ≤ 10000 := ht
  have hf2 : fl.length ≤ 100000 := hf
  clear hbel hF2 ht hf
  obtain rfl | rfl | rfl | rfl | rfl | rfl : kd = 1 ∨ kd = 2 ∨ kd = 3 ∨ kd = 4 ∨ kd = 5 ∨ kd = 6 := by omega
  · rw [show Itm.nm ⟨1, N, text, fl⟩ = nmByte from rfl, show Itm.enc ⟨1, N, text, fl⟩ = encByte N from rfl]
    go_enter Tryd.func12, Tryd.ntmps12
    go_wp2_with (go_at_call 25; refine (byte_any b st _ aA aL _ hW1 hp1).mono ?_; rintro e w' ⟨rfl, hh⟩)
    go_end0
    exact ⟨rfl, fin _ _ hh⟩
  · rw [show Itm.nm ⟨2, N, text, fl⟩ = nmCount from rfl, show Itm.enc ⟨2, N, text, fl⟩ = encCount N from rfl]
    go_enter Tryd.func12, Tryd.ntmps12
    go_wp2_with (go_at_call 33; refine (count_any b st _ hN aA aL _ hW1 hp1).mono ?_; rintro e w' ⟨rfl, hh⟩)
    go_end0
    exact ⟨rfl, fin _ _ hh⟩
  · rw [show Itm.nm ⟨3, N, text, fl⟩ = nmNum from rfl, show Itm.enc ⟨3, N, text, fl⟩ = some (grp (zig N)) from rfl]
    go_enter Tryd.func12, Tryd.ntmps12
    go_wp2_with (go_at_call 26; refine (num_any b st _ hN aA aL _ hW1 hp1).mono ?_; rintro e w' ⟨rfl, hh⟩)
    go_end0
    exact ⟨rfl, fin _ _ hh⟩
  · rw [show Itm.nm ⟨4, N, text, fl⟩ = nmText from rfl, show Itm.enc ⟨4, N, text, fl⟩ = some (grp text.size ++ text.data.toList) from rfl]
    go_enter Tryd.func12, Tryd.ntmps12
    go_wp2_with (go_at_call 34; refine (text_any b st _ ht2 aA aL _ hW1 hp1).mono ?_; rintro e w' ⟨rfl, hh⟩)
    go_end0
    exact ⟨rfl, fin _ _ hh⟩
  · rw [show Itm.nm ⟨5, N, text, fl⟩ = nmBits from rfl, show Itm.enc ⟨5, N, text, fl⟩ = some (grp (N % 4294967296).toNat) from rfl]
    have hwr : IntKind.u32.wrap N = ((N % 4294967296).toNat : Nat) := by rw [IntKind.wrap_u32']; omega
    have hlt : (((N % 4294967296).toNat : Nat) : Int) < 4294967296 := by omega
    generalize (N % 4294967296).toNat = k at hwr hlt ⊢
    clear hN
    go_enter Tryd.func12, Tryd.ntmps12
    go_wp2_with (go_at_call 36; refine (bits_any b st k hlt aA aL _ hW1 hp1).mono ?_; rintro e w' ⟨rfl, hh⟩)
    go_end0
    exact ⟨rfl, fin _ _ hh⟩
  · rw [show Itm.nm ⟨6, N, text, fl⟩ = nmFlags from rfl, show Itm.enc ⟨6, N, text, fl⟩ = some (packL fl) from rfl]
    go_enter Tryd.func12, Tryd.ntmps12
    go_wp2_with (go_at_call 35; refine (flags_any b st _ fl hf2 aA aL _ hW1 hp1 hF1).mono ?_; rintro e w' ⟨rfl, hh⟩)
    go_end0
    exact ⟨rfl, fin _ _ hh⟩
end Go.Proofs.YthngdaeiopgigaaDoor
