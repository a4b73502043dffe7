/- Plain lists of bytes: a text cut at each comma. No program is spoken of. -/
import Derived.Test.YtndbpmhdpjlncaaDoorSetBits
import Derived.Lib.IndexBytes
import Derived.Lib.IndexLaws
namespace Go.Proofs.YtndbpmhdpjlncaaDoor

/-- The parts of a text between the commas. -/
def splitC : List UInt8 → List (List UInt8)
  | [] => [[]]
  | c :: r => if c = 44 then [] :: splitC r else
    match splitC r with
    | [] => [[c]]
    | x :: xs => (c :: x) :: xs

theorem splitC_ne (l : List UInt8) : splitC l ≠ [] := by
  cases l with
  | nil => simp [splitC]
  | cons c r =>
    simp only [splitC]
    split
    · simp
    · split <;> simp
theorem splitC_none (l : List UInt8) (h : ∀ c ∈ l, c ≠ 44) : splitC l = [l] := by
  induction l with
  | nil => rfl
  | cons c r ih =>
    rw [splitC, if_neg (h c (by simp)), ih (fun d hd => h d (by simp [hd]))]
theorem splitC_at (a r : List UInt8) (h : ∀ c ∈ a, c ≠ 44) : splitC (a ++ 44 :: r) = a :: splitC r := by
  induction a with
  | nil => simp [splitC]
  | cons c a ih =>
    rw [List.cons_append, splitC, if_neg (h c (by simp)), ih (fun d hd => h d (by simp [hd]))]

theorem splitC_len (l : List UInt8) : ∀ x ∈ splitC l, x.length ≤ l.length := by
  induction l with
  | nil => simp [splitC]
  | cons c r ih =>
    intro x hx
    simp only [splitC] at hx
    split at hx
    · rcases List.mem_cons.1 hx with rfl | h
      · simp
      · have := ih x h; simp; omega
    · split at hx
      · rename_i h0; exact absurd h0 (splitC_ne r)
      · rename_i y ys h0
        rcases List.mem_cons.1 hx with rfl | h
        · have := ih y (by rw [h0]; simp); simp; omega
        · have := ih x (by rw [h0]; simp [h]); simp; omega
/-- What the next comma's place says of the parts. -/
theorem split_step (l : List UInt8) : (Lib.indexByte l 44 = -1 ∧ splitC l = [l]) ∨ ∃ i : Nat, Lib.indexByte l 44 = (i : Int) ∧ i < l.length ∧ splitC l = l.take i :: splitC (l.drop (i + 1)) := by
  rcases (show Lib.indexByte l 44 = -1 ∨ 0 ≤ Lib.indexByte l 44 by have := ge_neg l; omega) with h | h
  · refine .inl ⟨h, splitC_none l fun c hc e => ?_⟩
    obtain ⟨k, hk⟩ := List.getElem?_of_mem hc
    exact Lib.indexByte_none h k (by rw [hk, e])
  · obtain ⟨i, hi⟩ := Int.eq_ofNat_of_zero_le h
    obtain ⟨h1, h2⟩ := Lib.indexByte_some hi
    have hlt := (List.getElem?_eq_some_iff.1 h1).1
    refine .inr ⟨i, hi, hlt, ?_⟩
    have e : l = l.take i ++ 44 :: l.drop (i + 1) := by
      have hd := List.drop_eq_getElem_cons hlt
      rw [(List.getElem?_eq_some_iff.1 h1).2] at hd
      rw [← hd, List.take_append_drop]
    have e2 := splitC_at (l.take i) (l.drop (i + 1)) (fun c hc e => by
      obtain ⟨k, hk⟩ := List.getElem?_of_mem hc
      rw [List.getElem?_take] at hk
      split at hk
      · exact h2 k (by assumption) (by rw [hk, e])
      · cases hk)
    rw [← e] at e2
    exact e2
where
  ge_neg : ∀ l : List UInt8, -1 ≤ Lib.indexByte l 44
    | [] => by simp [Lib.indexByte]
    | b :: l => by
      have := ge_neg l
      simp only [Lib.indexByte]
      split
      · omega
      · split <;> omega

end Go.Proofs.YtndbpmhdpjlncaaDoor
