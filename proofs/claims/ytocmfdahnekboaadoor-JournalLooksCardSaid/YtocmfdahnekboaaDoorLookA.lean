/- journal.name and journal.told. -/
import Derived.Test.YtocmfdahnekboaaDoorLookM
import Derived.Test.YtocmfdahnekboaaDoorShelf
import Derived.Shelf.Unicode.PredsPay
import Derived.Lib.AppendIntMem
namespace Go.Proofs.YtocmfdahnekboaaDoor
open Go.RowKit Go.Shelf
set_option linter.unusedVariables false
attribute [local go_sem] Oper.semAt_some

/-- The table of tens that strconv reads. -/
def Tens (w : World) : Prop := Lib.TabIs Tryd.prog w "internal/strconv.uint64pow10" .u64 Lib.pow10Tab
theorem Tens.below {w w' : World} (h : Tens w) (hb : Below w.heap.size w w') : Tens w' := TabIs_below (P := Tryd.prog) (g := 0) (by kernel_rfl) h hb
theorem itoa_any (n : Nat) (hn : n ≤ 1048576) (w : World) (hT : Tens w) : Calls Tryd.prog 8 #[.int .i64 (n : Nat)] w fun e w' => e = .returned (.string (numB n)) ∧ Below w.heap.size w w' := by
  refine (Tryd.strconv_Itoa (n : Int) (by omega) (by omega) w hT).mono ?_
  rintro e w' ⟨rfl, k, os, rfl⟩
  exact ⟨rfl, Lib.below_grow w.heap.size w (Nat.le_refl _) k os⟩
set_option maxHeartbeats 800000 in
theorem name_any (k : Nat) (hk : k < 256) (w : World) : Calls Tryd.prog 28 #[.int .i64 (k : Nat)] w fun e w' => e = .returned (.string (nameB k)) ∧ w = w' := by
  have HN : Hid (∀ s, s = nameB k → Ending.returned (.string s) = .returned (.string (nameB k))) := Lib.hid (fun s h => by rw [h])
  go_enter Tryd.func28, Tryd.ntmps28
  by_cases h1 : k = 1
  · subst h1
    go_wp2
    go_ret
    exact ⟨rfl, rfl⟩
  by_cases h2 : k = 2
  · subst h2
    go_wp2
    go_ret
    exact ⟨rfl, rfl⟩
  by_cases h3 : k = 3
  · subst h3
    go_wp2
    go_ret
    exact ⟨rfl, rfl⟩
  by_cases h4 : k = 4
  · subst h4
    go_wp2
    go_ret
    exact ⟨rfl, rfl⟩
  have e1 : ((k : Int) == (1 : Int)) = false := beq_eq_false_iff_ne.2 (by omega)
  have e2 : ((k : Int) == (2 : Int)) = false := beq_eq_false_iff_ne.2 (by omega)
  have e3 : ((k : Int) == (3 : Int)) = false := beq_eq_false_iff_ne.2 (by omega)
  have e4 : ((k : Int) == (4 : Int)) = false := beq_eq_false_iff_ne.2 (by omega)
  have en : nameB k = ⟨#[111, 116, 104, 101, 114]⟩ := by unfold nameB; rw [if_neg h1, if_neg h2, if_neg h3, if_neg h4]
  have EN := Lib.hid en
  clear en HN
  go_wp2
  go_ret
  exact ⟨by rw [EN.out]; rfl, rfl⟩
set_option maxHeartbeats 800000 in
theorem told_any (s : ByteArray) (hs : s.size ≤ 1000) (n : Nat) (hn : n ≤ 1048576) (w : World) (hT : Tens w) : Calls Tryd.prog 27 #[.string s, .int .i64 (n : Nat)] w fun e w' => e = .returned (.string (toldB s n)) ∧ Below w.heap.size w w' := by
  have HI := Lib.hid (fun (W : World) (hb : Below w.heap.size w W) => itoa_any n hn W (hT.below hb))
  have hds := numB_size n hn
  have hsp : (s ++ (⟨#[32]⟩ : ByteArray)).size ≤ 1001 := by rw [ByteArray.size_append]; exact Nat.add_le_add_right hs 1
  have HTD : Hid (toldB s n = s ++ ⟨#[32]⟩ ++ numB n) := Lib.hid rfl
  obtain ⟨d, hd⟩ : ∃ d, numB n = d := ⟨_, rfl⟩
  rw [hd] at HI hds HTD
  clear hd hT
  go_enter Tryd.func27, Tryd.ntmps27
  go_wp2_with (go_at_call 8; refine (HI.out _ (by first | exact Below.refl _ _ | exact (Below.refl _ _).drew)).mono ?_; rintro e w' ⟨rfl, hb⟩)
  go_ret
  exact ⟨by rw [HTD.out]; rfl, hb⟩
end Go.Proofs.YtocmfdahnekboaaDoor
