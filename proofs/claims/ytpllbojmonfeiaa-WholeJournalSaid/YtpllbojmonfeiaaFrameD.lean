/- The contracts of frame.Scan and frame.End. -/
import Derived.Test.YtpllbojmonfeiaaFrameC
import Derived.Maps.AppendAt
import Derived.RangeFuncBox
namespace Go.Proofs.Ytpllbojmonfeiaa
open Go.RowKit Go.Shelf
set_option linter.unusedVariables false

attribute [local go_sem] Oper.semAt_some

theorem scan_bound (L : List Nat) : ∀ (n a : Nat), L.length - a ≤ n → ∀ x ∈ scanL L a, a ≤ x.1 ∧ x.1 + (x.2.2.length + 7) ≤ L.length
  | 0, a, h, x, hx => by rw [scanL_end (by omega)] at hx; cases hx
  | n + 1, a, h, x, hx => by
    by_cases hlt : a < L.length
    · by_cases hz : readE (L.drop a) = 0
      · have hs := step_le hlt hz
        have hp := readN_pos hz
        rw [scanL_step hlt hz] at hx
        rcases List.mem_cons.1 hx with rfl | hx
        · exact ⟨Nat.le_refl _, by show a + ((readB (L.drop a)).length + 7) ≤ _; omega⟩
        · have := scan_bound L n (a + readN (L.drop a)) (by omega) x hx
          omega
      · rw [scanL_bad hz] at hx; cases hx
    · rw [scanL_end (by omega)] at hx; cases hx

/-- Where the last of some frames ends. -/
def endOf (ys : List (Nat × Nat × List Nat)) : Nat := (ys.getLast?.map fun x => x.1 + (x.2.2.length + 7)).getD 0
theorem endOf_snoc (ys : List (Nat × Nat × List Nat)) (x : Nat × Nat × List Nat) : endOf (ys ++ [x]) = x.1 + (x.2.2.length + 7) := by
  unfold endOf; simp
theorem endOf_scan (L : List Nat) : endOf (scanL L 0) = scanE L 0 := (scan_last L L.length 0 (by omega) (Nat.zero_le _)).symm

set_option maxHeartbeats 400000 in
theorem scan_any (a : Option Addr) (n c : Nat) (l : List Nat) (hl : l.length ≤ 1048576) (w : World) (hS : Sl encY w.heap.size w (.slice a n c) l) :
    Calls Try.prog 68 #[.slice a n c] w fun e w' => ∃ Bs g va vc, e = .returned (.func (.func 83) #[] #[.pointer (some ⟨Bs, 0, none⟩)]) ∧ w.heap.size ≤ Bs ∧ Bs < w'.heap.size ∧ w.heap.size ≤ g ∧ g < w'.heap.size ∧
      w'.cell? ⟨Bs, 0, none⟩ = some (.slice va l.length vc) ∧ Sl encY w'.heap.size w' (.slice va l.length vc) l ∧ KeptV 0 [g] (.slice va l.length vc) ∧ Below w.heap.size w w' := by
  have HC := Lib.hid (cloneY_any a n c l hl w hS)
  clear hS
  obtain ⟨m, hm⟩ : ∃ m, l.length = m := ⟨_, rfl⟩
  rw [hm] at HC ⊢
  have HM := Lib.hid hm
  clear hm
  go_enter Try.func68, Try.ntmps68
  go_wp2_with (go_at_call 79; refine HC.out.mono ?_; rintro e w1 ⟨v, rfl, hown, hb1⟩; have hS1 := Sl.of_owns (xs := l) (by rw [HM.out]; exact hown); obtain ⟨va, vc, rfl⟩ := hS1.form; rw [HM.out] at hS1 hown ⊢; have HO := Lib.hid hown; have HS1 := Lib.hid hS1; clear hown hS1)
  refine (frames_any _ _ _ _).mono ?_
  rintro e w' ⟨rfl, rfl⟩
  have ha : Below w1.heap.size w1 (w1.alloc (.cells #[.slice va m vc] 22)) := (Below.refl _ _).alloc (Nat.le_refl _) _
  have hz := hb1.size
  have hfin : ∃ g, w.heap.size ≤ g ∧ g < w1.heap.size + 1 ∧ KeptV 0 [g] (.slice va m vc) := by
    rcases HO.out.2 with ⟨e, _⟩ | ⟨g, cap, cur, e, hg, hgb, _⟩
    · cases e
      exact ⟨w1.heap.size, hz, by omega, fun ad n c h => by cases h⟩
    · cases e
      exact ⟨g, hg, by have := (Array.getElem?_eq_some_iff.1 hgb).1; omega, fun ad n c h _ => by cases h; exact .inr (by simp)⟩
  obtain ⟨g, g1, g2, g3⟩ := hfin
  have HF : Hid (w.heap.size ≤ w1.heap.size ∧ w1.heap.size < (w1.alloc (.cells #[.slice va m vc] 22)).heap.size ∧ w.heap.size ≤ g ∧ g < (w1.alloc (.cells #[.slice va m vc] 22)).heap.size ∧
      (w1.alloc (.cells #[.slice va m vc] 22)).cell? ⟨w1.heap.size, 0, none⟩ = some (.slice va m vc) ∧ Sl encY (w1.alloc (.cells #[.slice va m vc] 22)).heap.size (w1.alloc (.cells #[.slice va m vc] 22)) (.slice va m vc) l ∧ KeptV 0 [g] (.slice va m vc) ∧ Below w.heap.size w (w1.alloc (.cells #[.slice va m vc] 22))) :=
    Lib.hid ⟨hz, by simp, g1, by simp; omega, cell_new_row _ _ _ 0, (HS1.out.below ha).mono ha.size, g3, hb1.trans (ha.mono hz)⟩
  clear ha hz g1 g2 g3 hb1
  go_wp2
  go_ret
  exact ⟨_, g, va, vc, rfl, HF.out⟩
end Go.Proofs.Ytpllbojmonfeiaa
