/- set.Pairs: what it hands back. -/
import Derived.Test.YtndbpmhdpjlncaaDoorClone
import Derived.Test.YtndbpmhdpjlncaaDoorSetS
namespace Go.Proofs.YtndbpmhdpjlncaaDoor
open Go.RowKit Go.Shelf

set_option maxRecDepth 100000 in
set_option maxHeartbeats 1000000 in
/-- set.Pairs hands back a walk over a copy. -/
theorem pairsN_any (s : Nat) (sv : Value) (zs : List Int) (w : World) (hs : s < 18446744073709551616) (hl : zs.length ≤ 1048576) (hz : Sl (Value.int .i64) w.heap.size w sv zs) :
    Calls Tryd.prog 35 #[.int .u64 s, sv] w fun e w' => ∃ Bk v, e = .returned (.func (.func 57) #[] #[.pointer (some ⟨w.heap.size, 0, none⟩), .pointer (some ⟨Bk, 0, none⟩)]) ∧ w.heap.size < Bk ∧ Bk < w'.heap.size ∧
      w'.cell? ⟨w.heap.size, 0, none⟩ = some (.int .u64 s) ∧ w'.cell? ⟨Bk, 0, none⟩ = some v ∧ Sl (Value.int .i64) w'.heap.size w' v (zs.take (Lib.bitLen s)) ∧ Below w.heap.size w w' := by
  have hB0 : Below w.heap.size w (w.alloc (.cells #[.int .u64 s] 22)) := (Below.refl _ w).alloc (Nat.le_refl _) _
  have hfin : ∀ (w1 : World) (v : Value), Below (w.heap.size + 1) (w.alloc (.cells #[.int .u64 s] 22)) w1 → Sl (Value.int .i64) w1.heap.size w1 v (zs.take (Lib.bitLen s)) →
      w.heap.size < w1.heap.size ∧ w1.heap.size < (w1.alloc (.cells #[v] 49)).heap.size ∧ (w1.alloc (.cells #[v] 49)).cell? ⟨w.heap.size, 0, none⟩ = some (.int .u64 s) ∧
      (w1.alloc (.cells #[v] 49)).cell? ⟨w1.heap.size, 0, none⟩ = some v ∧ Sl (Value.int .i64) (w1.alloc (.cells #[v] 49)).heap.size (w1.alloc (.cells #[v] 49)) v (zs.take (Lib.bitLen s)) ∧ Below w.heap.size w (w1.alloc (.cells #[v] 49)) := by
    intro w1 v hb hv
    have h1 := hb.size
    rw [World.size_alloc] at h1
    have ha : Below w1.heap.size w1 (w1.alloc (.cells #[v] 49)) := (Below.refl _ _).alloc (Nat.le_refl _) _
    refine ⟨by omega, by simp, ?_, cell_new_row _ _ _ 0, (hv.below ha).mono ha.size, hB0.trans ((hb.mono (by omega)).trans (ha.mono (by omega)))⟩
    exact (ha.cell (p := ⟨w.heap.size, 0, none⟩) (show w.heap.size < _ by omega)).trans ((hb.cell (p := ⟨w.heap.size, 0, none⟩) (show w.heap.size < _ by omega)).trans (cell_new_row _ _ _ 0))
  have HF := Lib.hid hfin; clear hfin
  have hLi : (0 : Int) ≤ (Lib.bitLen s : Nat) := by omega
  have HL : Hid (∀ w, Calls Tryd.prog 56 #[.int .u64 s] w fun e w' => e = .returned (.int .i64 (Lib.bitLen s : Nat)) ∧ w = w') := Lib.hid (fun w => by
    refine (Tryd.bits_Len64 s w (by omega) (by omega)).mono ?_
    rintro e w' ⟨rfl, rfl⟩
    exact ⟨rfl, rfl⟩)
  rcases hz with ⟨rfl, rfl⟩ | ⟨b, off, cap, rfl, hb, hcap, hc⟩
  · have HN := Lib.hid (cloneN_nil 0 0)
    go_enter Tryd.func35, Tryd.ntmps35
    go_wp2_with (first | (go_at_call 56; refine (HL.out _).mono ?_; rintro e w' ⟨rfl, rfl⟩) | (go_at_call 55; refine (HN.out _).mono ?_; rintro e w' ⟨rfl, rfl⟩))
    all_goals go_ret
    all_goals
      refine ⟨w.heap.size + 1, .slice none 0 0, rfl, ?_⟩
      have h := HF.out (w.alloc (.cells #[.int .u64 s] 22)) (.slice none 0 0) (Below.refl _ _) (.inl ⟨rfl, by simp⟩)
      simp only [World.size_alloc] at h ⊢
      exact h
  · have hc2 : ∀ (m j : Nat) x, (zs.take m)[j]? = some x → (w.alloc (.cells #[.int .u64 s] 22)).cell? ⟨b, off + j, none⟩ = some (.int .i64 x) := fun m j x hj => by
      rw [hB0.cell (p := ⟨b, off + j, none⟩) hb]
      refine hc j x ?_
      rw [List.getElem?_take] at hj
      split at hj
      · exact hj
      · cases hj
    have HC := Lib.hid hc2; clear hc2 hc
    by_cases hm : zs.length ≤ Lib.bitLen s
    · have HCl := Lib.hid (cloneN_any b off zs.length cap (zs.take (Lib.bitLen s)) (w.alloc (.cells #[.int .u64 s] 22)) (by rw [List.length_take]; omega) hl (HC.out _))
      have hmn : min ((zs.length : Nat) : Int) ((Lib.bitLen s : Nat) : Int) = (zs.length : Int) := by omega
      have HLN : Hid (zs.length = (zs.take (Lib.bitLen s)).length) := Lib.hid (by rw [List.length_take]; omega)
      obtain ⟨N, hN⟩ : ∃ N, zs.length = N := ⟨_, rfl⟩
      rw [hN] at HCl hmn hcap hl HLN ⊢
      clear hm hN
      go_enter Tryd.func35, Tryd.ntmps35
      go_wp2_with (first | (go_at_call 56; refine (HL.out _).mono ?_; rintro e w' ⟨rfl, rfl⟩) | (go_at_call 55; refine HCl.out.mono ?_; rintro e w1 ⟨v, rfl, h1, h2⟩; obtain ⟨pa, pc, rfl⟩ := owns_slice h1))
      go_ret
      exact ⟨_, _, rfl, HF.out w1 _ (h2.mono (by simp)) (Sl.of_owns (by rw [← HLN.out]; exact h1))⟩
    · have HCl := Lib.hid (cloneN_any b off (Lib.bitLen s) cap (zs.take (Lib.bitLen s)) (w.alloc (.cells #[.int .u64 s] 22)) (by rw [List.length_take]; omega) (by omega) (HC.out _))
      have hmn : min ((zs.length : Nat) : Int) ((Lib.bitLen s : Nat) : Int) = (Lib.bitLen s : Nat) := by omega
      have HLN : Hid (Lib.bitLen s = (zs.take (Lib.bitLen s)).length) := Lib.hid (by rw [List.length_take]; omega)
      have hcap2 : Lib.bitLen s ≤ cap := by omega
      have hl2 : Lib.bitLen s ≤ 1048576 := by omega
      obtain ⟨M, hM⟩ : ∃ M, Lib.bitLen s = M := ⟨_, rfl⟩
      rw [hM] at HCl hmn hcap2 hl2 HLN HL HF ⊢
      clear hm hM hcap
      go_enter Tryd.func35, Tryd.ntmps35
      go_wp2_with (first | (go_at_call 56; refine (HL.out _).mono ?_; rintro e w' ⟨rfl, rfl⟩) | (go_at_call 55; refine HCl.out.mono ?_; rintro e w1 ⟨v, rfl, h1, h2⟩; obtain ⟨pa, pc, rfl⟩ := owns_slice h1))
      go_ret
      exact ⟨_, _, rfl, HF.out w1 _ (h2.mono (by simp)) (Sl.of_owns (by rw [← HLN.out]; exact h1))⟩

set_option maxRecDepth 100000 in
set_option maxHeartbeats 1000000 in
/-- set.Pairs hands back a walk over a copy. -/
theorem pairsB_any (s : Nat) (sv : Value) (zs : List Int) (w : World) (hs : s < 18446744073709551616) (hl : zs.length ≤ 1048576) (hz : Sl (Value.int .u8) w.heap.size w sv zs) :
    Calls Tryd.prog 41 #[.int .u64 s, sv] w fun e w' => ∃ Bk v, e = .returned (.func (.func 65) #[] #[.pointer (some ⟨w.heap.size, 0, none⟩), .pointer (some ⟨Bk, 0, none⟩)]) ∧ w.heap.size < Bk ∧ Bk < w'.heap.size ∧
      w'.cell? ⟨w.heap.size, 0, none⟩ = some (.int .u64 s) ∧ w'.cell? ⟨Bk, 0, none⟩ = some v ∧ Sl (Value.int .u8) w'.heap.size w' v (zs.take (Lib.bitLen s)) ∧ Below w.heap.size w w' := by
  have hB0 : Below w.heap.size w (w.alloc (.cells #[.int .u64 s] 22)) := (Below.refl _ w).alloc (Nat.le_refl _) _
  have hfin : ∀ (w1 : World) (v : Value), Below (w.heap.size + 1) (w.alloc (.cells #[.int .u64 s] 22)) w1 → Sl (Value.int .u8) w1.heap.size w1 v (zs.take (Lib.bitLen s)) →
      w.heap.size < w1.heap.size ∧ w1.heap.size < (w1.alloc (.cells #[v] 69)).heap.size ∧ (w1.alloc (.cells #[v] 69)).cell? ⟨w.heap.size, 0, none⟩ = some (.int .u64 s) ∧
      (w1.alloc (.cells #[v] 69)).cell? ⟨w1.heap.size, 0, none⟩ = some v ∧ Sl (Value.int .u8) (w1.alloc (.cells #[v] 69)).heap.size (w1.alloc (.cells #[v] 69)) v (zs.take (Lib.bitLen s)) ∧ Below w.heap.size w (w1.alloc (.cells #[v] 69)) := by
    intro w1 v hb hv
    have h1 := hb.size
    rw [World.size_alloc] at h1
    have ha : Below w1.heap.size w1 (w1.alloc (.cells #[v] 69)) := (Below.refl _ _).alloc (Nat.le_refl _) _
    refine ⟨by omega, by simp, ?_, cell_new_row _ _ _ 0, (hv.below ha).mono ha.size, hB0.trans ((hb.mono (by omega)).trans (ha.mono (by omega)))⟩
    exact (ha.cell (p := ⟨w.heap.size, 0, none⟩) (show w.heap.size < _ by omega)).trans ((hb.cell (p := ⟨w.heap.size, 0, none⟩) (show w.heap.size < _ by omega)).trans (cell_new_row _ _ _ 0))
  have HF := Lib.hid hfin; clear hfin
  have hLi : (0 : Int) ≤ (Lib.bitLen s : Nat) := by omega
  have HL : Hid (∀ w, Calls Tryd.prog 56 #[.int .u64 s] w fun e w' => e = .returned (.int .i64 (Lib.bitLen s : Nat)) ∧ w = w') := Lib.hid (fun w => by
    refine (Tryd.bits_Len64 s w (by omega) (by omega)).mono ?_
    rintro e w' ⟨rfl, rfl⟩
    exact ⟨rfl, rfl⟩)
  rcases hz with ⟨rfl, rfl⟩ | ⟨b, off, cap, rfl, hb, hcap, hc⟩
  · have HN := Lib.hid (cloneB_nil 0 0)
    go_enter Tryd.func41, Tryd.ntmps41
    go_wp2_with (first | (go_at_call 56; refine (HL.out _).mono ?_; rintro e w' ⟨rfl, rfl⟩) | (go_at_call 64; refine (HN.out _).mono ?_; rintro e w' ⟨rfl, rfl⟩))
    all_goals go_ret
    all_goals
      refine ⟨w.heap.size + 1, .slice none 0 0, rfl, ?_⟩
      have h := HF.out (w.alloc (.cells #[.int .u64 s] 22)) (.slice none 0 0) (Below.refl _ _) (.inl ⟨rfl, by simp⟩)
      simp only [World.size_alloc] at h ⊢
      exact h
  · have hc2 : ∀ (m j : Nat) x, (zs.take m)[j]? = some x → (w.alloc (.cells #[.int .u64 s] 22)).cell? ⟨b, off + j, none⟩ = some (.int .u8 x) := fun m j x hj => by
      rw [hB0.cell (p := ⟨b, off + j, none⟩) hb]
      refine hc j x ?_
      rw [List.getElem?_take] at hj
      split at hj
      · exact hj
      · cases hj
    have HC := Lib.hid hc2; clear hc2 hc
    by_cases hm : zs.length ≤ Lib.bitLen s
    · have HCl := Lib.hid (cloneB_any b off zs.length cap (zs.take (Lib.bitLen s)) (w.alloc (.cells #[.int .u64 s] 22)) (by rw [List.length_take]; omega) hl (HC.out _))
      have hmn : min ((zs.length : Nat) : Int) ((Lib.bitLen s : Nat) : Int) = (zs.length : Int) := by omega
      have HLN : Hid (zs.length = (zs.take (Lib.bitLen s)).length) := Lib.hid (by rw [List.length_take]; omega)
      obtain ⟨N, hN⟩ : ∃ N, zs.length = N := ⟨_, rfl⟩
      rw [hN] at HCl hmn hcap hl HLN ⊢
      clear hm hN
      go_enter Tryd.func41, Tryd.ntmps41
      go_wp2_with (first | (go_at_call 56; refine (HL.out _).mono ?_; rintro e w' ⟨rfl, rfl⟩) | (go_at_call 64; refine HCl.out.mono ?_; rintro e w1 ⟨v, rfl, h1, h2⟩; obtain ⟨pa, pc, rfl⟩ := owns_slice h1))
      go_ret
      exact ⟨_, _, rfl, HF.out w1 _ (h2.mono (by simp)) (Sl.of_owns (by rw [← HLN.out]; exact h1))⟩
    · have HCl := Lib.hid (cloneB_any b off (Lib.bitLen s) cap (zs.take (Lib.bitLen s)) (w.alloc (.cells #[.int .u64 s] 22)) (by rw [List.length_take]; omega) (by omega) (HC.out _))
      have hmn : min ((zs.length : Nat) : Int) ((Lib.bitLen s : Nat) : Int) = (Lib.bitLen s : Nat) := by omega
      have HLN : Hid (Lib.bitLen s = (zs.take (Lib.bitLen s)).length) := Lib.hid (by rw [List.length_take]; omega)
      have hcap2 : Lib.bitLen s ≤ cap := by omega
      have hl2 : Lib.bitLen s ≤ 1048576 := by omega
      obtain ⟨M, hM⟩ : ∃ M, Lib.bitLen s = M := ⟨_, rfl⟩
      rw [hM] at HCl hmn hcap2 hl2 HLN HL HF ⊢
      clear hm hM hcap
      go_enter Tryd.func41, Tryd.ntmps41
      go_wp2_with (first | (go_at_call 56; refine (HL.out _).mono ?_; rintro e w' ⟨rfl, rfl⟩) | (go_at_call 64; refine HCl.out.mono ?_; rintro e w1 ⟨v, rfl, h1, h2⟩; obtain ⟨pa, pc, rfl⟩ := owns_slice h1))
      go_ret
      exact ⟨_, _, rfl, HF.out w1 _ (h2.mono (by simp)) (Sl.of_owns (by rw [← HLN.out]; exact h1))⟩

end Go.Proofs.YtndbpmhdpjlncaaDoor
