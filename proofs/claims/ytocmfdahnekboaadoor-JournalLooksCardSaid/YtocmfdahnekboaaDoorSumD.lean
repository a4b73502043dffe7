/- Contracts of sum.Of, Extend and Seal. -/
import Derived.Test.YtocmfdahnekboaaDoorSumC
import Derived.Test.YtocmfdahnekboaaDoorRefY
namespace Go.Proofs.YtocmfdahnekboaaDoor
open Go.RowKit SumM

/-- The sum of bytes. -/
def sumL (l : List Nat) : Nat := ext 0 l
theorem sumL_lt (l : List Nat) : sumL l < 4294967296 := ext_lt 0 l
theorem of_any (a : Option Addr) (n c : Nat) (ls : List (List Nat)) (hn : ls.length ≤ 1048576) (hls : ∀ l ∈ ls, Bytes l) (w : World) (hP : Parts w.heap.size w (.slice a n c) ls) :
    Calls Tryd.prog 64 #[.slice a n c] w fun e w' => e = .returned (.int .u32 (sumL ls.flatten : Nat)) ∧ Below w.heap.size w w' := by
  have HE := Lib.hid (extend_any 0 (by decide) a n c ls hn hls w hP)
  clear hP hls
  go_enter Tryd.func64, Tryd.ntmps64
  go_wp2_with (go_at_call 74; refine HE.out.mono ?_; rintro e w1 ⟨rfl, hb⟩)
  go_ret
  exact ⟨rfl, hb⟩

theorem cell_alloc_one (w : World) (v : Value) (t : TypeId) : (w.alloc (.cells #[v] t)).cell? ⟨w.heap.size, 0, none⟩ = some v := by rw [cell_new_row]; rfl
/-- One slice among the parts that a call is handed. -/
theorem Parts.one (w : World) (v : Value) (l : List Nat) (t : TypeId) (hS : Sl encY w.heap.size w v l) : Parts (w.alloc (.cells #[v] t)).heap.size (w.alloc (.cells #[v] t)) (.slice (some ⟨w.heap.size, 0, none⟩) 1 1) [l] := by
  refine .inr ⟨w.heap.size, 0, 1, rfl, by simp, fun j x hj => ?_⟩
  match j, hj with
  | 0, hj =>
    cases hj
    exact ⟨v, cell_alloc_one _ _ _, (hS.below ((Below.refl _ w).alloc (Nat.le_refl _) _)).mono (by simp)⟩
  | j + 1, hj => simp at hj
theorem Parts.two (w : World) (v u : Value) (l m : List Nat) (t : TypeId) (hS : Sl encY w.heap.size w v l) (hT : Sl encY w.heap.size w u m) : Parts (w.alloc (.cells #[v, u] t)).heap.size (w.alloc (.cells #[v, u] t)) (.slice (some ⟨w.heap.size, 0, none⟩) 2 2) [l, m] := by
  refine .inr ⟨w.heap.size, 0, 2, rfl, by simp, fun j x hj => ?_⟩
  match j, hj with
  | 0, hj =>
    cases hj
    exact ⟨v, by rw [cell_new_row]; rfl, (hS.below ((Below.refl _ w).alloc (Nat.le_refl _) _)).mono (by simp)⟩
  | 1, hj =>
    cases hj
    exact ⟨u, by rw [cell_new_row]; rfl, (hT.below ((Below.refl _ w).alloc (Nat.le_refl _) _)).mono (by simp)⟩
  | j + 2, hj => simp at hj

/-- sum.Of of one slice, as a walk meets it: the slice of slices is made ahead. -/
theorem of_one (v : Value) (l : List Nat) (hl : Bytes l) (w : World) (hS : Sl encY w.heap.size w v l) :
    Calls Tryd.prog 64 #[.slice (some ⟨w.heap.size, 0, none⟩) 1 1] (w.alloc (.cells #[v] 22)) fun e w' => e = .returned (.int .u32 (sumL l : Nat)) ∧ Below w.heap.size w w' := by
  refine (of_any _ 1 1 [l] (by simp) (fun x hx => by simp at hx; subst hx; exact hl) _ (Parts.one w v l _ hS)).mono ?_
  rintro e w' ⟨rfl, hb⟩
  exact ⟨by simp, ((Below.refl _ w).alloc (Nat.le_refl _) _).trans (hb.mono (by simp))⟩

/-- The four bytes of a sum. -/
def sum4 (s : Nat) : List Nat := [s % 256, s / 256 % 256, s / 65536 % 256, s / 16777216 % 256]
def sealL (l : List Nat) : List Nat := l ++ sum4 (sumL l)
theorem seal_len (l : List Nat) : (sealL l).length = l.length + 4 := by simp [sealL, sum4]

set_option maxRecDepth 100000 in
set_option maxHeartbeats 1000000 in
theorem seal_any (a : Option Addr) (n c : Nat) (l : List Nat) (hl : Bytes l) (w : World) (hS : Sl encY w.heap.size w (.slice a n c) l) :
    Calls Tryd.prog 48 #[.slice a n c] w fun e w' => ∃ v, e = .returned v ∧ w'.ownsRow w.heap.size 5 1 v (sealL l).length ((sealL l).map encY) ∧ Below w.heap.size w w' := by
  obtain ⟨i0, hi, hz0, hz1, hz2⟩ := info_parts info8
  obtain rfl := hS.len
  obtain ⟨hl1, hl2⟩ := hl
  have HS := Lib.hid hS
  have HL2 := Lib.hid hl2
  clear hS hl2
  obtain ⟨n, hn⟩ : ∃ n, l.length = n := ⟨_, rfl⟩
  have HL := Lib.hid hn
  rw [hn] at hl1 HS ⊢
  clear hn
  go_enter Tryd.func48, Tryd.ntmps48
  go_wp2_with (refine wpList_make_own _ rfl (.const (.int .i64 0)) (.tmp 7) 22 rfl w.heap.size 5 i0 (.int .u8 0) 1 Tryd.underlying22 hi hz0 hz1 .i64 .i64 _ (n + 4) rfl rfl (by push_cast; rfl) (by rw [hz2]; omega) (by unfold maxLen; omega) (Nat.le_refl _) ?_)
  intro w1 hown1 hg1
  have hb1 : Below w.heap.size w w1 := (Below.refl _ w).grown hg1 (Nat.le_refl _) (fun k h => by cases h)
  have HS1 := Lib.hid (HS.out.below hb1)
  go_wp2_with (at_builtin; refine wpList_append_bytes _ rfl (.tmp 8) (.tmp 9) rfl w.heap.size _ 0 [] rfl hown1 w.heap.size _ l rfl HS1.out (by rw [HL.out]; omega) hb1.size ?_)
  intro v2 w2 hown2 hg2
  have hb2 : Below w.heap.size w w2 := below_grown hown1 hb1.size hb1 hg2
  have HS2 := Lib.hid ((HS.out.below hb2).mono hb2.size)
  have HO2 := Lib.hid hown2
  clear hown1 hg1 hown2 hg2
  have HQ : Hid (∀ (w3 : World), Sl encY (w3.alloc (.cells #[Value.int .u8 ((sumL l : Int) % 256), Value.int .u8 ((sumL l : Int) / 256 % 256), Value.int .u8 ((sumL l : Int) / 65536 % 256), Value.int .u8 ((sumL l : Int) / 16777216 % 256)] 5)).heap.size (w3.alloc (.cells #[Value.int .u8 ((sumL l : Int) % 256), Value.int .u8 ((sumL l : Int) / 256 % 256), Value.int .u8 ((sumL l : Int) / 65536 % 256), Value.int .u8 ((sumL l : Int) / 16777216 % 256)] 5)) (.slice (some ⟨w3.heap.size, 0, none⟩) 4 4) (sum4 (sumL l))) :=
    Lib.hid fun w3 => Sl.lit encY w3 5 (sum4 (sumL l)) _ (by simp [sum4, encY])
  go_wp2_with (first | (go_at_call 64; refine (of_one _ l ⟨by rw [HL.out]; exact hl1, HL2.out⟩ _ HS2.out).mono ?_; rintro e w3 ⟨rfl, hb3⟩) | (at_builtin; refine wpList_append_bytes _ rfl (.tmp 14) (.tmp 26) rfl w.heap.size _ l.length (l.map encY) rfl ((ownsRow_below HO2.out hb3 (Nat.le_refl _)).alloc _) _ _ (sum4 (sumL l)) rfl (HQ.out w3) (by rw [HL.out]; simp [sum4]; omega) (by have := hb2.size; have := hb3.size; simp; omega) ?_))
  intro v4 w4 hown4 hg4
  have hb4 : Below w.heap.size w w4 := below_grown ((ownsRow_below HO2.out hb3 (Nat.le_refl _)).alloc _) (by have := hb2.size; have := hb3.size; simp; omega) ((hb2.trans (hb3.mono hb2.size)).alloc (by have := hb2.size; have := hb3.size; omega) _) hg4
  have HO4 : Hid (w4.ownsRow w.heap.size 5 1 v4 (sealL l).length ((sealL l).map encY)) := Lib.hid (by rw [seal_len]; unfold sealL; rw [List.map_append]; exact hown4)
  clear hown4 hg4
  go_wp2
  go_ret
  exact ⟨_, rfl, HO4.out, hb4⟩

end Go.Proofs.YtocmfdahnekboaaDoor
