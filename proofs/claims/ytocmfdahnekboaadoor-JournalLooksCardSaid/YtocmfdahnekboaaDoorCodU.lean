/- codec.From, In.fail, In.Uint. -/
import Derived.Test.YtocmfdahnekboaaDoorCodW
import Derived.Test.YtocmfdahnekboaaDoorFrameAl
import Derived.Test.YtocmfdahnekboaaDoorDevH
namespace Go.Proofs.YtocmfdahnekboaaDoor
open Go.RowKit
set_option linter.unusedVariables false

theorem from_any (a : Option Addr) (n c : Nat) (l : List Nat) (hl : l.length ≤ 1048576) (w : World) (hS : Sl encY w.heap.size w (.slice a n c) l) :
    Calls Tryd.prog 79 #[.slice a n c] w fun e w' => ∃ b, e = .returned (.pointer (some ⟨b, 0, none⟩)) ∧ w.heap.size ≤ b ∧ InB w'.heap.size w' b l 0 ∧ Below w.heap.size w w' := by
  have HC := Lib.hid (cloneY_any a n c l hl w hS)
  have hz : ∀ (w : World), (zeroValue 129).run Tryd.prog w = .ok (.agg #[.slice none 0 0, .int .i64 0]) w := fun w => by kernel_rfl
  clear hS
  go_enter Tryd.func79, Tryd.ntmps79
  go_wp2_with fail
  refine HC.out.mono ?_
  rintro e w1 ⟨v, rfl, hown, hb⟩
  obtain ⟨p2, n2, c2, rfl⟩ := ownsRow_form hown
  have HS := Lib.hid (Sl.of_owns hown)
  have HB := Lib.hid hb
  clear hown hb
  go_wp2
  go_ret
  refine ⟨w1.heap.size, rfl, HB.out.size, ⟨Nat.le_refl _, _, World.alloc_heap_new w1 _, (HS.out.below ((Below.refl _ w1).alloc (Nat.le_refl _) _)).mono (by simp)⟩, HB.out.alloc HB.out.size _⟩

theorem Sl.butN {n : Nat} {own : List Nat} {W W' : World} {sv : Value} {l : List Nat} (hn : n ≤ W.heap.size) (h : Sl encY n W sv l) (hb : But own W W') (ho : Off own sv) : Sl encY n W' sv l := by
  rcases h with h | ⟨b, off, cap, e, hlt, hcap, hc⟩
  · exact .inl h
  · rcases Nat.eq_zero_or_pos l.length with h0 | h0
    · rw [e, h0]
      obtain rfl := List.eq_nil_of_length_eq_zero h0
      exact .inl ⟨rfl, _, _, rfl, fun h => by cases h⟩
    · exact .inr ⟨b, off, cap, e, hlt, hcap, fun j x hj => (World.cell?_of_block (hb.block b (Nat.lt_of_lt_of_le hlt hn) (ho _ _ _ e h0))).trans (hc j x hj)⟩
theorem InB.off {n0 : Nat} {W : World} {b e : Nat} {v : Value} {l : List Nat} (h : W.heap[b]? = some (.cells #[v, .int .i64 (e : Nat)] 129 (0, 0))) (hS : Sl encY n0 W v l) (hv : ∃ a m c, v = .slice a m c) : Off [b] v ∨ l = [] := by
  rcases hS with ⟨h0, _⟩ | ⟨g, off, cap, e1, hg, hcap, hc⟩
  · exact .inr h0
  · rcases Nat.eq_zero_or_pos l.length with h0 | h0
    · exact .inr (List.eq_nil_of_length_eq_zero h0)
    · left
      intro ad n c e2 _ hm
      rw [e1] at e2; cases e2
      simp at hm; subst hm
      have h1 := hc 0 (l[0]'h0) (List.getElem?_eq_getElem h0)
      rw [Nat.add_zero] at h1
      rw [cell_of_row W g off _ _ _ h] at h1
      obtain ⟨a, m, c, rfl⟩ := hv
      match off, h1 with
      | 0, h1 => simp [encY] at h1
      | 1, h1 => simp [encY] at h1
      | j + 2, h1 => simp at h1

set_option maxRecDepth 100000 in
theorem fail_any (n0 b e0 t : Nat) (l : List Nat) (w : World) (h : InB n0 w b l e0) :
    Calls Tryd.prog 85 #[.pointer (some ⟨b, 0, none⟩), .int .i64 (t : Nat)] w fun e w' => e = .returned (.tuple #[]) ∧ InB n0 w' b [] (if e0 = 0 then t else e0) ∧ But [b] w w' := by
  obtain ⟨v, h1, h2⟩ := h.blk
  have HLE := Lib.hid h.le
  have c1 : w.cell? ⟨b, 1, none⟩ = some (.int .i64 (e0 : Nat)) := cell_of_row w b 1 _ _ _ h1
  have c0 : w.cell? ⟨b, 0, none⟩ = some v := cell_of_row w b 0 _ _ _ h1
  have f0 := frozen_of_row w b 0 _ _ h1
  have f1 := frozen_of_row w b 1 _ _ h1
  have H1 := Lib.hid h1
  clear h h1 h2
  by_cases h0 : e0 = 0
  · subst h0
    rw [if_pos rfl]
    go_enter Tryd.func85, Tryd.ntmps85
    go_wp2
    go_end0
    refine ⟨rfl, ⟨by simpa [World.setCell] using HLE.out, .slice none 0 0, ?_, Sl.nil _ _ _⟩, ((But.refl _ _).set (by simp) _).set (by simp) _⟩
    exact heap_setCell_same _ b 0 _ _ _ (heap_setCell_same w b 1 _ _ _ H1.out)
  · rw [if_neg h0]
    have h0i : ((e0 : Int) == 0) = false := beq_eq_false_iff_ne.2 (by omega)
    go_enter Tryd.func85, Tryd.ntmps85
    go_wp2
    go_end0
    refine ⟨rfl, ⟨by simpa [World.setCell] using HLE.out, .slice none 0 0, ?_, Sl.nil _ _ _⟩, (But.refl _ _).set (by simp) _⟩
    exact heap_setCell_same w b 0 _ _ _ H1.out
end Go.Proofs.YtocmfdahnekboaaDoor

/- In.Uint. -/
namespace Go.Proofs.YtocmfdahnekboaaDoor
open Go.RowKit
set_option linter.unusedVariables false

/-- What is left behind a whole number, and what went wrong. -/
def uintR (l : List Nat) (e : Nat) : List Nat × Nat := if (wholeR l).2.2 = 0 then (l.drop (wholeR l).2.1, e) else ([], if e = 0 then (wholeR l).2.2 else e)
theorem wholeR_nil : wholeR [] = (0, 0, 21) := rfl
theorem wholeR_good {l : List Nat} (h : (wholeR l).2.2 = 0) : (wholeR l).2.1 ≤ l.length ∧ 1 ≤ (wholeR l).2.1 := by
  rcases lastI_cases l with hk | ⟨k, x, hk, hx, hlow, hb⟩
  · have e : wholeR l = (0, 0, 21) := by unfold wholeR; rw [hk]; rfl
    rw [e] at h; cases h
  · have hkl := (List.getElem?_eq_some_iff.1 hx).1
    unfold wholeR at h ⊢
    rw [hk, if_neg (by omega), Int.toNat_natCast] at h ⊢
    split at h
    · cases h
    · rw [if_neg (by assumption)]
      exact ⟨by show k + 1 ≤ _; omega, by show 1 ≤ k + 1; omega⟩
theorem wholeR_bad {l : List Nat} (h : (wholeR l).2.2 ≠ 0) : (wholeR l).1 = 0 := by
  unfold wholeR at h ⊢
  split
  · rfl
  · rename_i h1
    rw [if_neg h1] at h
    split
    · rfl
    · rename_i h2
      rw [if_neg h2] at h
      exact absurd rfl h

set_option maxRecDepth 100000 in
set_option maxHeartbeats 1000000 in
theorem inUint_any (n0 b e : Nat) (l : List Nat) (hl : Bytes l) (w : World) (h : InB n0 w b l e) :
    Calls Tryd.prog 80 #[.pointer (some ⟨b, 0, none⟩)] w fun e2 w' => e2 = .returned (.int .u64 ((wholeR l).1 : Nat)) ∧ InB n0 w' b (uintR l e).1 (uintR l e).2 ∧ But [b] w w' := by
  have HF := Lib.hid (fun t => fail_any n0 b e t l w h)
  obtain ⟨v, h1, h2⟩ := h.blk
  obtain ⟨a, c, rfl⟩ := h2.form
  have HLE := Lib.hid h.le
  have c0 : w.cell? ⟨b, 0, none⟩ = some (.slice a l.length c) := cell_of_row w b 0 _ _ _ h1
  have f0 := frozen_of_row w b 0 _ _ h1
  have HW := Lib.hid (whole_any a l.length c l hl w (h2.mono h.le))
  have hl1 := hl.1
  have H1 := Lib.hid h1
  have H2 := Lib.hid h2
  by_cases hg : (wholeR l).2.2 = 0
  · obtain ⟨g1, g2⟩ := wholeR_good hg
    rw [show uintR l e = (l.drop (wholeR l).2.1, e) from if_pos hg]
    have hcap := h2.capb
    have hoff := InB.off h1 h2 ⟨_, _, _, rfl⟩
    obtain ⟨b', off, ha⟩ : ∃ b' off, a = some ⟨b', off, none⟩ := by
      rcases h2 with ⟨e0, _⟩ | ⟨b', off, cap, e2, _⟩
      · have h0 : l.length = 0 := by rw [e0]; rfl
        omega
      · cases e2; exact ⟨_, _, rfl⟩
    subst ha
    have HD : Hid (Sl encY n0 w (.slice (some ⟨b', off + (wholeR l).2.1, none⟩) (l.length - (wholeR l).2.1) (c - (wholeR l).2.1)) (l.drop (wholeR l).2.1)) := Lib.hid (h2.from_ g1)
    obtain ⟨V, hV⟩ : ∃ V, (wholeR l).1 = V := ⟨_, rfl⟩
    obtain ⟨S, hS⟩ : ∃ S, (wholeR l).2.1 = S := ⟨_, rfl⟩
    rw [hV, hS, hg] at HW
    rw [hS] at g1 g2 HD ⊢
    rw [hV]
    obtain ⟨n, hn⟩ : ∃ n, l.length = n := ⟨_, rfl⟩
    have HN := Lib.hid hn
    rw [hn] at HW HD g1 hcap c0 hl1 H1 hoff
    have HOFF := Lib.hid hoff
    clear h h1 h2 hl hn hV hS hg H2 hoff HF
    go_enter Tryd.func80, Tryd.ntmps80
    go_wp2_with (go_at_call 84; refine HW.out.mono ?_; rintro e2 w1 ⟨rfl, rfl⟩)
    all_goals go_ret
    · obtain rfl : S = n := by omega
      have hd : l.drop S = [] := List.drop_eq_nil_of_le (by rw [HN.out]; exact Nat.le_refl _)
      refine ⟨rfl, ⟨by simpa [World.setCell] using HLE.out, _, heap_setCell_same w1 b 0 _ _ _ H1.out, .inl ⟨hd, _, _, by rw [Nat.sub_self], fun h => by cases h⟩⟩, (But.refl _ _).set (by simp) _⟩
    · have hset : But [b] w1 (w1.setCell ⟨b, 0, none⟩ (.slice (some ⟨b', off + S, none⟩) (n - S) (c - S))) := (But.refl _ _).set (by simp) _
      refine ⟨rfl, ⟨by simpa [World.setCell] using HLE.out, _, heap_setCell_same w1 b 0 _ _ _ H1.out, Sl.butN HLE.out HD.out hset ?_⟩, hset⟩
      intro ad n2 c2 e2 hp
      cases e2
      rcases HOFF.out with ho | ho
      · exact ho ⟨b', off, none⟩ _ _ rfl (by omega)
      · have h0 := HN.out
        rw [ho] at h0
        simp at h0; omega
  · rw [show uintR l e = ([], if e = 0 then (wholeR l).2.2 else e) from if_neg hg, wholeR_bad hg]
    rw [wholeR_bad hg] at HW
    obtain ⟨T, hT⟩ : ∃ T, (wholeR l).2.2 = T := ⟨_, rfl⟩
    obtain ⟨S, hS⟩ : ∃ S, (wholeR l).2.1 = S := ⟨_, rfl⟩
    rw [hT, hS] at HW
    rw [hT] at hg ⊢
    obtain ⟨E, hE⟩ : ∃ E, (if e = 0 then T else e) = E := ⟨_, rfl⟩
    have hTi : ((T : Int) != 0) = true := by rw [bne_iff_ne]; omega
    have hf2 := HF.out T
    rw [hE] at hf2 ⊢
    have HF2 := Lib.hid hf2
    clear hf2 hE
    obtain ⟨n, hn⟩ : ∃ n, l.length = n := ⟨_, rfl⟩
    rw [hn] at HW c0 hl1
    clear h h1 h2 hl hn hT hS H1 H2 HF
    go_enter Tryd.func80, Tryd.ntmps80
    go_wp2_with fail
    refine HW.out.mono ?_
    rintro e2 w1 ⟨rfl, rfl⟩
    go_wp2_with fail
    refine HF2.out.mono ?_
    rintro e2 w2 ⟨rfl, hi, hb⟩
    go_wp2
    go_ret
    exact ⟨rfl, hi, hb⟩
end Go.Proofs.YtocmfdahnekboaaDoor

/- In.Left, In.Err, In.Int. -/
namespace Go.Proofs.YtocmfdahnekboaaDoor
open Go.RowKit
set_option linter.unusedVariables false

theorem left_any (n0 b e : Nat) (l : List Nat) (hl : l.length ≤ 1048576) (w : World) (h : InB n0 w b l e) :
    Calls Tryd.prog 82 #[.pointer (some ⟨b, 0, none⟩)] w fun e2 w' => e2 = .returned (.int .i64 (l.length : Nat)) ∧ w' = w := by
  obtain ⟨v, h1, h2⟩ := h.blk
  obtain ⟨a, c, rfl⟩ := h2.form
  have c0 : w.cell? ⟨b, 0, none⟩ = some (.slice a l.length c) := cell_of_row w b 0 _ _ _ h1
  obtain ⟨n, hn⟩ : ∃ n, l.length = n := ⟨_, rfl⟩
  rw [hn] at c0 hl ⊢
  clear h h1 h2 hn
  go_enter Tryd.func82, Tryd.ntmps82
  go_wp2
  go_ret
  exact ⟨rfl, rfl⟩
theorem err_any (n0 b e : Nat) (l : List Nat) (w : World) (h : InB n0 w b l e) :
    Calls Tryd.prog 81 #[.pointer (some ⟨b, 0, none⟩)] w fun e2 w' => e2 = .returned (.int .i64 (e : Nat)) ∧ w' = w := by
  obtain ⟨v, h1, h2⟩ := h.blk
  have c1 : w.cell? ⟨b, 1, none⟩ = some (.int .i64 (e : Nat)) := cell_of_row w b 1 _ _ _ h1
  clear h h1 h2
  go_enter Tryd.func81, Tryd.ntmps81
  go_wp2
  go_ret
  exact ⟨rfl, rfl⟩
end Go.Proofs.YtocmfdahnekboaaDoor

/- Facts for In.Int. -/
namespace Go.Proofs.YtocmfdahnekboaaDoor
open Go.RowKit

theorem wholeR_lt (l : List Nat) : (wholeR l).1 < 18446744073709551616 := by
  rcases lastI_cases l with hk | ⟨k, x, hk, hx, hlow, hb⟩
  · have e : wholeR l = (0, 0, 21) := by unfold wholeR; rw [hk]; rfl
    rw [e]; decide
  · have hg : l.getD k 0 = x := by rw [List.getD_eq_getElem?_getD, hx]; rfl
    have e0 : wholeR l = if 10 ≤ k ∨ (k = 9 ∧ 1 < x) ∨ (0 < k ∧ x = 0) then (0, 0, 20) else (valL (l.take (k + 1)), k + 1, 0) := by
      unfold wholeR
      rw [hk, if_neg (by omega), Int.toNat_natCast, hg]
    rw [e0]
    split
    · decide
    · rename_i hn
      have hkl := (List.getElem?_eq_some_iff.1 hx).1
      have hlen : (l.take k).length = k := by rw [List.length_take]; omega
      have h1 := valL_lt (l.take k)
      rw [hlen] at h1
      show valL (l.take (k + 1)) < _
      rw [take_one _ _ _ hx, valL_snoc, hlen]
      rcases (by omega : k ≤ 8 ∨ k = 9) with h | h
      · have h2 : 128 ^ k ≤ 128 ^ 8 := Nat.pow_le_pow_right (by decide) h
        have h3 : x % 128 * 128 ^ k ≤ 127 * 128 ^ 8 := Nat.mul_le_mul (by omega) h2
        omega
      · subst h
        have h4 : x % 128 ≤ 1 := by omega
        have h3 : x % 128 * 128 ^ 9 ≤ 1 * 128 ^ 9 := Nat.mul_le_mul h4 (Nat.le_refl _)
        omega
theorem not_i64 (n : Nat) (h : n < 9223372036854775808) : bits .xor .i64 (-1) (n : Int) = -(n : Int) - 1 := by
  show IntKind.i64.wrap ((BitVec.ofInt 64 (-1) ^^^ BitVec.ofInt 64 (n : Int)).toNat : Int) = _
  have hx : (BitVec.ofInt 64 (-1) ^^^ BitVec.ofInt 64 (n : Int)).toNat = 18446744073709551615 - n := by
    rw [show BitVec.ofInt 64 (-1) = BitVec.allOnes 64 from by decide, BitVec.allOnes_xor, BitVec.toNat_not, BitVec.ofInt_natCast, BitVec.toNat_ofNat, Nat.mod_eq_of_lt (by omega)]
  rw [hx, IntKind.wrap_i64]
  omega
theorem and_one64 (u : Nat) (h : u < 18446744073709551616) : bits .and .u64 (u : Int) 1 = ((u % 2 : Nat) : Int) := by
  rw [show (1 : Int) = ((1 : Nat) : Int) from rfl, u64_and_nat _ _ h (by decide), Nat.and_one_is_mod]
/-- A number with a sign, back from one with none. -/
def zag (u : Nat) : Int := if u % 2 = 1 then -((u / 2 : Nat) : Int) - 1 else ((u / 2 : Nat) : Int)
theorem zag_zig (m : Int) : zag (zig m) = m := by
  unfold zag zig
  split <;> split <;> omega

end Go.Proofs.YtocmfdahnekboaaDoor