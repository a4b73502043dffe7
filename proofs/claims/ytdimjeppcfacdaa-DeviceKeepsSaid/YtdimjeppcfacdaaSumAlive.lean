/- The document's examples of layer 3 are answered as it says. -/
import Derived.Test.YtdimjeppcfacdaaSumRef
import Derived.Lib.SlBytesConst
namespace Go.Proofs.Ytdimjeppcfacdaa
open Go.RowKit SumM

theorem of_at (N : Nat) (v : Value) (l : List Nat) (hl : Bytes l) (w : World) (hN : w.heap.size = N) (hS : Sl encY N w v l) :
    Calls Try.prog 16 #[.slice (some ⟨N, 0, none⟩) 1 1] (w.alloc (.cells #[v] 22)) fun e w' => e = .returned (.int .u32 (sumL l : Nat)) ∧ Below N w w' := by
  subst hN
  exact of_one v l hl w hS
/-- sum.Of of nothing. -/
theorem of_nil (w : World) : Calls Try.prog 16 #[.slice none 0 0] w fun e w' => e = .returned (.int .u32 0) ∧ Below w.heap.size w w' := by
  refine (of_any none 0 0 [] (by decide) (fun l hl => by cases hl) w (Parts.nil _ _)).mono ?_
  rintro e w' ⟨rfl, hb⟩
  exact ⟨rfl, hb⟩
theorem lit_at (N : Nat) (w : World) (hN : w.heap.size = N) (xs : List Nat) (n : Nat) (hn : xs.length = n) (cs : Array Value) (fr : Nat × Nat) (h : cs = (xs.map encY).toArray) : Sl encY (w.alloc (.cells cs 5 fr)).heap.size (w.alloc (.cells cs 5 fr)) (.slice (some ⟨N, 0, none⟩) n n) xs := by
  subst hN; subst hn
  refine .inr ⟨w.heap.size, 0, xs.length, rfl, by simp, Nat.le_refl _, fun j x hj => ?_⟩
  have h2 := World.alloc_heap_new w (.cells cs 5 fr)
  simp only [World.cell?]
  rw [h2, h, Nat.zero_add]
  simp [hj]
theorem below_lit {w W : World} (h : Below w.heap.size w W) (o : Obj) : Below w.heap.size w (W.alloc o) := h.alloc h.size _

theorem s9 : sumL [49, 50, 51, 52, 53, 54, 55, 56, 57] = 3808858755 := by decide +kernel
theorem s5 : ext (sumL [49, 50, 51, 52, 53]) [54, 55, 56, 57] = 3808858755 := by decide +kernel
theorem sab : openL (sealL [97, 98]) = some [97, 98] := by decide +kernel
theorem s12 : openL [1, 2, 3, 4, 5] = none := by decide +kernel
theorem bab : Bytes (sealL [97, 98]) := ⟨by decide +kernel, by decide +kernel⟩

set_option maxRecDepth 100000 in
set_option maxHeartbeats 2000000 in
theorem sumAlive_any (w : World) : Calls Try.prog 15 #[] w fun e w' => e = .returned (.bool true) ∧ Below w.heap.size w w' := by
  have hB0 := Below.refl w.heap.size w
  have hcv := fun (w : World) (C : Array Value) (n c : Nat) => Lib.run_convert_bytes_const (P := Try.prog) w 22 5 C n c Try.underlying22 Try.underlying5
  go_enter Try.func15, Try.ntmps15
  go_wp2_with fail
  have hB1 := below_lit hB0 (.cells #[.int .u8 97, .int .u8 98] 5 (2, 3))
  refine (seal_any _ _ _ [97, 98] ⟨by decide, by decide⟩ _ (lit_at _ w rfl [97, 98] 2 rfl #[.int .u8 97, .int .u8 98] (2, 3) rfl)).mono ?_
  rintro e w2 ⟨v2, rfl, hown2, hb2⟩
  have hB2 := hB1.trans (hb2.mono hB1.size)
  have hS2 := Sl.of_owns hown2
  obtain ⟨a2, c2, rfl⟩ := hS2.form
  clear hown2 hb2 hB1
  go_wp2_with fail
  refine (open_any _ _ _ _ bab _ hS2).mono ?_
  rintro e w3 ⟨v3, rfl, hS3, hb3⟩
  have hB3 := hB2.trans (hb3.mono hB2.size)
  rw [sab] at hS3 ⊢
  have hS3' : Sl encY w3.heap.size w3 v3 [97, 98] := hS3
  obtain ⟨a3, c3, rfl⟩ := hS3'.form
  have HS3 := Lib.hid hS3'
  clear hb3 hB2 hS3 hS2 hS3'
  go_wp2_with fail
  have hB4 := below_lit hB3 (.cells #[.int .u8 1, .int .u8 2, .int .u8 3, .int .u8 4, .int .u8 5] 5)
  refine (open_any _ _ _ [1, 2, 3, 4, 5] ⟨by decide, by decide⟩ _ (lit_at _ w3 rfl [1, 2, 3, 4, 5] 5 rfl #[.int .u8 1, .int .u8 2, .int .u8 3, .int .u8 4, .int .u8 5] (0, 0) rfl)).mono ?_
  rintro e w4 ⟨v4, rfl, hS4, hb4⟩
  rw [s12]
  have hB5 := hB4.trans (hb4.mono hB4.size)
  have hB3a : Below w3.heap.size w3 (w3.alloc (.cells #[.int .u8 1, .int .u8 2, .int .u8 3, .int .u8 4, .int .u8 5] 5)) := (Below.refl _ _).alloc (Nat.le_refl _) _
  have H4 := Lib.hid (HS3.out.below (hB3a.trans (hb4.mono hB3a.size)))
  have hz4 : w3.heap.size ≤ w4.heap.size := (hB3a.trans (hb4.mono hB3a.size)).size
  clear hS4 hb4 hB4 hB3 hB3a
  go_wp2_with fail
  have hB6 := below_lit hB5 (.cells #[.int .u8 49, .int .u8 50, .int .u8 51, .int .u8 52, .int .u8 53, .int .u8 54, .int .u8 55, .int .u8 56, .int .u8 57] 5 (9, 10))
  refine (of_at _ _ [49, 50, 51, 52, 53, 54, 55, 56, 57] ⟨by decide, by decide⟩ (w4.alloc (.cells #[.int .u8 49, .int .u8 50, .int .u8 51, .int .u8 52, .int .u8 53, .int .u8 54, .int .u8 55, .int .u8 56, .int .u8 57] 5 (9, 10))) (World.size_alloc _ _) (by have := lit_at _ w4 rfl [49, 50, 51, 52, 53, 54, 55, 56, 57] 9 rfl #[.int .u8 49, .int .u8 50, .int .u8 51, .int .u8 52, .int .u8 53, .int .u8 54, .int .u8 55, .int .u8 56, .int .u8 57] (9, 10) rfl; rw [World.size_alloc] at this; exact this)).mono ?_
  rintro e w5 ⟨rfl, hb5⟩
  rw [s9]
  have hBm : Below w4.heap.size w4 (w4.alloc (.cells #[.int .u8 49, .int .u8 50, .int .u8 51, .int .u8 52, .int .u8 53, .int .u8 54, .int .u8 55, .int .u8 56, .int .u8 57] 5 (9, 10))) := (Below.refl _ _).alloc (Nat.le_refl _) _
  have hB45 := hBm.trans (hb5.mono (Nat.le_succ _))
  have hB7 := hB5.trans (hB45.mono hB5.size)
  have H5 := Lib.hid (H4.out.below (hB45.mono hz4))
  have hz5 : w3.heap.size ≤ w5.heap.size := Nat.le_trans hz4 hB45.size
  clear hb5 hB6 hBm hB45 hB5 H4 hz4
  go_wp2_with fail
  refine (of_nil w5).mono ?_
  rintro e w6 ⟨rfl, hb6⟩
  have hB8 := hB7.trans (hb6.mono hB7.size)
  have H6 := Lib.hid (H5.out.below (hb6.mono hz5))
  have hz6 : w3.heap.size ≤ w6.heap.size := Nat.le_trans hz5 hb6.size
  clear hb6 hB7 H5 hz5
  go_wp2_with fail
  refine (of_at _ _ [49, 50, 51, 52, 53] ⟨by decide, by decide⟩ (w6.alloc (.cells #[.int .u8 49, .int .u8 50, .int .u8 51, .int .u8 52, .int .u8 53] 5 (5, 6))) (World.size_alloc _ _) (by have := lit_at _ w6 rfl [49, 50, 51, 52, 53] 5 rfl #[.int .u8 49, .int .u8 50, .int .u8 51, .int .u8 52, .int .u8 53] (5, 6) rfl; rw [World.size_alloc] at this; exact this)).mono ?_
  rintro e w7 ⟨rfl, hb7⟩
  have hBm : Below w6.heap.size w6 (w6.alloc (.cells #[.int .u8 49, .int .u8 50, .int .u8 51, .int .u8 52, .int .u8 53] 5 (5, 6))) := (Below.refl _ _).alloc (Nat.le_refl _) _
  have hB67 := hBm.trans (hb7.mono (Nat.le_succ _))
  have hB9 := hB8.trans (hB67.mono hB8.size)
  have H7 := Lib.hid (H6.out.below (hB67.mono hz6))
  have hz7 : w3.heap.size ≤ w7.heap.size := Nat.le_trans hz6 hB67.size
  clear hb7 hBm hB67 hB8 H6 hz6
  go_wp2_with fail
  have hBm : Below w7.heap.size w7 (w7.alloc (.cells #[.int .u8 54, .int .u8 55, .int .u8 56, .int .u8 57] 5 (4, 5))) := (Below.refl _ _).alloc (Nat.le_refl _) _
  refine (extend1_any _ (sumL_lt _) _ _ _ [54, 55, 56, 57] ⟨by decide, by decide⟩ _ (lit_at _ w7 rfl [54, 55, 56, 57] 4 rfl #[.int .u8 54, .int .u8 55, .int .u8 56, .int .u8 57] (4, 5) rfl)).mono ?_
  rintro e w8 ⟨rfl, hb8⟩
  rw [s5]
  have hB78 := hBm.trans (hb8.mono hBm.size)
  have hBA := hB9.trans (hB78.mono hB9.size)
  have H8 := H7.out.below (hB78.mono hz7)
  have hstr : (convert 22 9 (.slice a3 2 c3)).run Try.prog w8 = .ok (.string (strOfNums ([97, 98].map Int.ofNat))) w8 := (bytesIn_of H8).convert (P := Try.prog) (by simp) c3 22 5 9 Try.underlying22 Try.underlying5 Try.underlying9
  have hsn : strOfNums ([97, 98].map Int.ofNat) = ⟨#[97, 98]⟩ := by decide +kernel
  rw [hsn] at hstr
  clear hb8 hBm hB78 hB9 H7 hz7 H8 hsn HS3
  go_wp2_with fail
  go_ret
  exact ⟨rfl, hBA⟩
end Go.Proofs.Ytdimjeppcfacdaa
