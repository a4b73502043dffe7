/- What journal.Look tells of a region's frames: names, numbers, the rest (plain words; the calls that make them). -/
import Derived.Test.YtocmfdahnekboaaDoorFrameAl
import Derived.Test.YtocmfdahnekboaaDoorJrnX
import Derived.Lib.ItoaLen
namespace Go.Proofs.YtocmfdahnekboaaDoor
open Go.RowKit Go.Shelf
set_option linter.unusedVariables false
attribute [local go_sem] Oper.semAt_some

/-- The name of a kind of frames. -/
def nameB (k : Nat) : ByteArray := if k = 1 then ⟨#[104, 101, 97, 100]⟩ else if k = 2 then ⟨#[112, 105, 101, 99, 101]⟩ else if k = 3 then ⟨#[114, 101, 97, 100, 121]⟩ else if k = 4 then ⟨#[114, 101, 99, 111, 114, 100]⟩ else ⟨#[111, 116, 104, 101, 114]⟩
def restB : ByteArray := ⟨#[114, 101, 115, 116]⟩
def numB (n : Nat) : ByteArray := ⟨(Lib.itoa (n : Int)).toArray⟩
/-- A word and a number. -/
def toldB (s : ByteArray) (n : Nat) : ByteArray := s ++ ⟨#[32]⟩ ++ numB n
theorem nameB_size (k : Nat) : (nameB k).size ≤ 6 := by
  unfold nameB
  split
  · decide
  · split
    · decide
    · split
      · decide
      · split
        · decide
        · decide
theorem numB_size (n : Nat) (h : n ≤ 1048576) : (numB n).size ≤ 21 := by
  have h1 := Lib.itoa_length_le (n : Int) (by omega) (by omega)
  show (Lib.itoa (n : Int)).toArray.size ≤ 21
  rw [List.size_toArray]; exact h1
theorem sp_rest : restB ++ ⟨#[32]⟩ = (⟨#[114, 101, 115, 116, 32]⟩ : ByteArray) := rfl
/-- What is told: the place and the words. -/
abbrev LX := Nat × ByteArray
def lookF (x : Nat × Nat × List Nat) : LX := (x.1, toldB (nameB x.2.1) x.2.2.length)
def lookR (L : List Nat) : List LX := if scanE L 0 < L.length then [(scanE L 0, toldB restB (L.length - scanE L 0))] else []
def lookL (L : List Nat) : List LX := (scanL L 0).map lookF ++ lookR L
def encX (x : LX) : Array Value := #[.int .i64 (x.1 : Nat), .string x.2]
/-- The kinds of a region's frames. -/
theorem scan_kind (L : List Nat) (hb : ∀ x ∈ L, x < 256) : ∀ (n a : Nat), L.length - a ≤ n → ∀ x ∈ scanL L a, x.2.1 ≠ 0 ∧ x.2.1 < 256
  | 0, a, h, x, hx => by rw [scanL_end (by omega)] at hx; cases hx
  | n + 1, a, h, x, hx => by
    by_cases hlt : a < L.length
    · by_cases hz : readE (L.drop a) = 0
      · rw [scanL_step hlt hz] at hx
        have hs := step_le hlt hz
        rcases List.mem_cons.1 hx with rfl | hx
        · have ok := (frame_of_read (fun y hy => hb y (List.mem_of_mem_drop hy)) hz).2
          exact ⟨ok.1, ok.2.1⟩
        · exact scan_kind L hb n _ (by omega) x hx
      · rw [scanL_bad hz] at hx; cases hx
    · rw [scanL_end (by omega)] at hx; cases hx
theorem lookL_pre {L : List Nat} {pre : List (Nat × Nat × List Nat)} {x : Nat × Nat × List Nat} (h : pre ++ [x] <+: scanL L 0) : pre.map lookF ++ [lookF x] <+: lookL L := by
  obtain ⟨t, ht⟩ := h
  refine ⟨t.map lookF ++ lookR L, ?_⟩
  unfold lookL
  rw [← ht]
  simp
end Go.Proofs.YtocmfdahnekboaaDoor
