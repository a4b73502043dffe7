/- journal.Look: what it hands back, and what that tells. -/
import Derived.Test.YtocmfdahnekboaaDoorLookA
import Derived.Test.YtocmfdahnekboaaDoorJrnR
import Derived.Test.YtocmfdahnekboaaDoorRegionSeqIn
namespace Go.Proofs.YtocmfdahnekboaaDoor
open Go.RowKit Go.Shelf
set_option linter.unusedVariables false
attribute [local go_sem] Oper.semAt_some

set_option maxRecDepth 100000 in
set_option maxHeartbeats 4000000 in
theorem look_any {own : List Nat} {b : Nat} {D : DevS} {v0 v1 : Value} (k : Int) (w : World) (hD : Dev own w b D v0 v1) :
    Calls Tryd.prog 9 #[.pointer (some ⟨b, 0, none⟩), .int .i64 k] w fun e w' => ∃ X S Bs g va vc, e = .returned (.func (.func 26) #[] #[.pointer (some ⟨X, 0, none⟩), .pointer (some ⟨S, 0, none⟩)]) ∧ BodAt w.heap.size w' X S Bs g va vc (D.row k).length (D.row k) ∧ Below w.heap.size w w' := by
  have hcap := hD.ok.cap
  have hrow := hD.ok.row k
  have hl2 : (D.row k).length ≤ 1048576 := by omega
  have HBY := Lib.hid (bytes_any k w hD)
  obtain ⟨L, hL⟩ : ∃ L, D.row k = L := ⟨_, rfl⟩
  rw [hL] at hl2 HBY ⊢
  have HL2 := Lib.hid hl2
  clear hD hL hrow hl2 hcap
  go_enter Tryd.func9, Tryd.ntmps9
  go_wp2_with fail
  refine HBY.out.mono ?_
  rintro e w1 ⟨vv, rfl, hown, hb1⟩
  have hS := Sl.of_owns hown
  obtain ⟨p, c, rfl⟩ := hS.form
  have HSC := Lib.hid (scan_any p L.length c L HL2.out w1 hS)
  have hz1 := hb1.size
  have HB1 := Lib.hid hb1
  clear hown hS HBY hb1
  go_wp2_with fail
  refine HSC.out.mono ?_
  rintro e w2 ⟨Bs, g, va, vc, rfl, hs1, hs2, hs3, hs4, hcB, hSB, hkB, hb2⟩
  have hz2 := hb2.size
  have HB2 := Lib.hid (HB1.out.trans (hb2.mono hz1))
  have HCB := Lib.hid hcB
  have HSB := Lib.hid hSB
  have HKB := Lib.hid hkB
  clear hcB hSB hkB hb2 HSC HB1
  have hX0 : Boxed ((w2.alloc (.cells #[.nilFunc] seqT)).alloc (.cells #[.int .i64 0] 3)) w2.heap.size seqT .nilFunc := (Boxed.new w2 _ _).alloc _
  have hS0 : Boxed ((w2.alloc (.cells #[.nilFunc] seqT)).alloc (.cells #[.int .i64 0] 3)) (w2.heap.size + 1) 3 (.int .i64 0) := by
    have := Boxed.new (w2.alloc (.cells #[.nilFunc] seqT)) 3 (.int .i64 0)
    rw [World.size_alloc] at this; exact this
  have hb0 : Below w2.heap.size w2 ((w2.alloc (.cells #[.nilFunc] seqT)).alloc (.cells #[.int .i64 0] 3)) := ((Below.refl _ _).alloc (Nat.le_refl _) _).alloc (by simp) _
  have hst := store_func (P := Tryd.prog) 61 Bs hX0.cell hX0.frozen
  have hX1 := hX0.set (.func (.func 61) #[] #[.pointer (some ⟨Bs, 0, none⟩)])
  have hS1 := hS0.other (B' := w2.heap.size) (by omega) (.func (.func 61) #[] #[.pointer (some ⟨Bs, 0, none⟩)])
  have hb1 := hb0.setCell (p := ⟨w2.heap.size, 0, none⟩) (Nat.le_refl _) (.func (.func 61) #[] #[.pointer (some ⟨Bs, 0, none⟩)])
  have c2 := hS1.cell
  have f2 := hS1.frozen
  have hX2 : Boxed ((w2.alloc (.cells #[(.func (.func 61) #[] #[.pointer (some ⟨Bs, 0, none⟩)])] seqT)).alloc (.cells #[.int .i64 (L.length : Nat)] 3)) w2.heap.size seqT (.func (.func 61) #[] #[.pointer (some ⟨Bs, 0, none⟩)]) := (Boxed.new w2 _ _).alloc _
  have hS2 : Boxed ((w2.alloc (.cells #[(.func (.func 61) #[] #[.pointer (some ⟨Bs, 0, none⟩)])] seqT)).alloc (.cells #[.int .i64 (L.length : Nat)] 3)) (w2.heap.size + 1) 3 (.int .i64 (L.length : Nat)) := by
    have := Boxed.new (w2.alloc (.cells #[(.func (.func 61) #[] #[.pointer (some ⟨Bs, 0, none⟩)])] seqT)) 3 (.int .i64 (L.length : Nat))
    rw [World.size_alloc] at this; exact this
  have hb2 : Below w2.heap.size w2 ((w2.alloc (.cells #[(.func (.func 61) #[] #[.pointer (some ⟨Bs, 0, none⟩)])] seqT)).alloc (.cells #[.int .i64 (L.length : Nat)] 3)) := ((Below.refl _ _).alloc (Nat.le_refl _) _).alloc (by simp) _
  have hsc : ScAt w1.heap.size w2 Bs g va vc L := ⟨HCB.out, HSB.out, HKB.out, hs1, hs3, hs2, hs4⟩
  have HFIN := Lib.hid (And.intro (show BodAt w.heap.size _ w2.heap.size (w2.heap.size + 1) Bs g va vc L.length L from ⟨hX2, hS2, (hsc.below hb2).le hz1, Nat.le_trans hz1 hz2, Nat.le_trans (Nat.le_trans hz1 hz2) (Nat.le_succ _), by omega, by omega, by omega⟩) (HB2.out.trans (hb2.mono (Nat.le_trans hz1 hz2))))
  clear hb1
  clear hX0 hS0 hb0 hX1 hS1 hS2 hX2 hb2 hsc
  go_wp2
  go_ret
  exact ⟨_, _, Bs, g, va, vc, rfl, HFIN.out⟩
end Go.Proofs.YtocmfdahnekboaaDoor
