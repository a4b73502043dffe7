/- Frames as lists of bytes. -/
import Derived.Test.YtpllbojmonfeiaaSumRef
namespace Go.Proofs.Ytpllbojmonfeiaa
open Go.RowKit SumM
set_option linter.unusedVariables false

/-- A frame's bytes. -/
def headF (k : Nat) (l : List Nat) : List Nat := [l.length % 256, l.length / 256, k]
def frameL (k : Nat) (l : List Nat) : List Nat := sealL (headF k l ++ l)
theorem frame_len (k : Nat) (l : List Nat) : (frameL k l).length = l.length + 7 := by
  unfold frameL headF; rw [seal_len]; simp
def writeE (k : Int) (l : List Nat) : Nat := if k < 1 ∨ 255 < k then 1 else if 4096 < l.length then 2 else 0
def writeL (k : Int) (l : List Nat) : List Nat := if writeE k l = 0 then frameL k.toNat l else []
/-- How long a frame says its body is. -/
def lenOf (l : List Nat) : Nat := l.getD 0 0 + 256 * l.getD 1 0
def readE (l : List Nat) : Nat :=
  if l.length < 2 then 21 else if 4096 < lenOf l then 2 else if l.length < lenOf l + 7 then 21 else
  if openL (l.take (lenOf l + 7)) = none then 22 else if l.getD 2 0 = 0 then 20 else 0
def readK (l : List Nat) : Nat := if readE l = 0 then l.getD 2 0 else 0
def readB (l : List Nat) : List Nat := if readE l = 0 then (l.take (lenOf l + 3)).drop 3 else []
def readN (l : List Nat) : Nat := if readE l = 0 then lenOf l + 7 else 0

theorem openL_some {t s : List Nat} (h : openL t = some s) : 4 ≤ t.length ∧ s = t.take (t.length - 4) ∧ sealL s = t := by
  unfold openL at h
  split at h
  · cases h
  · split at h
    · rename_i h1 h2
      cases h
      exact ⟨by omega, rfl, h2⟩
    · cases h
theorem openL_seal (l : List Nat) : openL (sealL l) = some l := by
  have h : (sealL l).take ((sealL l).length - 4) = l := by rw [seal_len, Nat.add_sub_cancel, seal_take]
  unfold openL
  rw [if_neg (by rw [seal_len]; omega), h, if_pos rfl]
theorem readE_zero {l : List Nat} (h : readE l = 0) : 2 ≤ l.length ∧ lenOf l ≤ 4096 ∧ lenOf l + 7 ≤ l.length ∧ openL (l.take (lenOf l + 7)) = some (l.take (lenOf l + 3)) ∧ l.getD 2 0 ≠ 0 := by
  unfold readE at h
  split at h
  · cases h
  · split at h
    · cases h
    · split at h
      · cases h
      · split at h
        · cases h
        · rename_i h1 h2 h3 h4
          obtain ⟨s, hs⟩ := Option.ne_none_iff_exists'.1 h4
          obtain ⟨_, e, _⟩ := openL_some hs
          have : (l.take (lenOf l + 7)).take ((l.take (lenOf l + 7)).length - 4) = l.take (lenOf l + 3) := by
            rw [List.length_take, List.take_take]; congr 1; omega
          rw [this] at e
          split at h
          · cases h
          · rename_i h5
            exact ⟨by omega, by omega, by omega, by rw [hs, e], h5⟩
theorem readB_len {l : List Nat} (h : readE l = 0) : (readB l).length = lenOf l := by
  have := readE_zero h
  unfold readB
  rw [if_pos h, List.length_drop, List.length_take]; omega
theorem readN_pos {l : List Nat} (h : readE l = 0) : 7 ≤ readN l ∧ readN l ≤ l.length ∧ readN l = (readB l).length + 7 := by
  have := readE_zero h
  rw [readB_len h]
  unfold readN
  rw [if_pos h]; omega

theorem get_head (k : Nat) (l m : List Nat) : (frameL k l ++ m).getD 0 0 = l.length % 256 ∧ (frameL k l ++ m).getD 1 0 = l.length / 256 ∧ (frameL k l ++ m).getD 2 0 = k := by
  refine ⟨?_, ?_, ?_⟩ <;> simp [frameL, headF, sealL]
theorem lenOf_frame (k : Nat) (l m : List Nat) : lenOf (frameL k l ++ m) = l.length := by
  obtain ⟨h0, h1, _⟩ := get_head k l m
  unfold lenOf; rw [h0, h1]; omega
theorem take_frame (k : Nat) (l m : List Nat) : (frameL k l ++ m).take (l.length + 7) = frameL k l := by
  rw [← frame_len k l, List.take_left']; rfl
/-- What is written is read. -/
theorem read_frame (k : Nat) (l m : List Nat) (hk : k ≠ 0) (hl : l.length ≤ 4096) : readE (frameL k l ++ m) = 0 ∧ readK (frameL k l ++ m) = k ∧ readB (frameL k l ++ m) = l ∧ readN (frameL k l ++ m) = l.length + 7 := by
  have hlen := lenOf_frame k l m
  have h2 := (get_head k l m).2.2
  have hfl : (frameL k l ++ m).length = l.length + 7 + m.length := by rw [List.length_append, frame_len]
  have hE : readE (frameL k l ++ m) = 0 := by
    unfold readE
    rw [hlen, if_neg (by omega), if_neg (by omega), if_neg (by omega), take_frame, if_neg (by unfold frameL; rw [openL_seal]; simp), h2, if_neg hk]
  refine ⟨hE, ?_, ?_, ?_⟩
  · unfold readK; rw [if_pos hE, h2]
  · unfold readB
    rw [if_pos hE, hlen]
    have e : frameL k l ++ m = headF k l ++ (l ++ (sum4 (sumL (headF k l ++ l)) ++ m)) := by simp [frameL, sealL]
    rw [e, List.take_append, List.take_of_length_le (by simp [headF])]
    have h3 : (headF k l).length = 3 := rfl
    rw [List.drop_append, List.drop_of_length_le (by rw [h3]; omega), h3]
    simp
  · unfold readN; rw [if_pos hE, hlen]
/-- A proper beginning is too short. -/
theorem read_cut (k : Nat) (l : List Nat) (m : Nat) (hl : l.length ≤ 4096) (hm : m < l.length + 7) : readE ((frameL k l).take m) = 21 := by
  have hfl := frame_len k l
  have htl : ((frameL k l).take m).length = m := by rw [List.length_take]; omega
  unfold readE
  by_cases h2 : m < 2
  · rw [if_pos (by omega)]
  · have hg := get_head k l []
    rw [List.append_nil] at hg
    have hlen : lenOf ((frameL k l).take m) = l.length := by
      unfold lenOf
      have g0 : ((frameL k l).take m).getD 0 0 = (frameL k l).getD 0 0 := by simp only [List.getD, List.getElem?_take]; rw [if_pos (by omega)]
      have g1 : ((frameL k l).take m).getD 1 0 = (frameL k l).getD 1 0 := by simp only [List.getD, List.getElem?_take]; rw [if_pos (by omega)]
      rw [g0, g1, hg.1, hg.2.1]; omega
    rw [hlen, if_neg (by omega), if_neg (by omega), if_pos (by omega)]
theorem frame_bytes {k : Nat} {l : List Nat} (hk : k < 256) (hl : l.length ≤ 4096) (hb : ∀ x ∈ l, x < 256) : ∀ x ∈ frameL k l, x < 256 := by
  apply seal_bytes
  intro x hx
  rcases List.mem_append.1 hx with h | h
  · simp [headF] at h
    omega
  · exact hb x h
theorem readN_le (l : List Nat) : readN l ≤ l.length := by
  by_cases h : readE l = 0
  · exact (readN_pos h).2.1
  · unfold readN; rw [if_neg h]; omega

theorem sum4_inj {s t : Nat} (hs : s < 4294967296) (ht : t < 4294967296) (h : sum4 s = sum4 t) : s = t := by
  simp [sum4] at h
  omega
theorem xorL_take (a b : List Nat) (n : Nat) : (xorL a b).take n = xorL (a.take n) (b.take n) := by
  unfold xorL; rw [List.take_zipWith]
theorem digits_take (D n m : Nat) (h : m ≤ n) : (digits D n).take m = digits D m := by
  unfold digits
  rw [← List.map_take, List.take_range, Nat.min_eq_left h]
theorem turnL_take (l : List Nat) (D m : Nat) (h : m ≤ l.length) : (turnL l D).take m = turnL (l.take m) D := by
  unfold turnL
  rw [xorL_take, digits_take _ _ _ h, List.length_take, Nat.min_eq_left h]
/-- With bits turned within a run of 32 a frame's bytes are not read as a frame of as many. -/
theorem frame_turn (k : Nat) (l : List Nat) (hk0 : k ≠ 0) (hk : k < 256) (hl : l.length ≤ 4096) (hb : ∀ x ∈ l, x < 256) (at' m : Nat) (hat : at' < 8 * (l.length + 3)) (hm : m < 4294967296)
    (hsame : (turnL (frameL k l) (m * 2 ^ at')).drop (l.length + 3) = (frameL k l).drop (l.length + 3)) :
    (readE (turnL (frameL k l) (m * 2 ^ at')) = 0 ∧ readN (turnL (frameL k l) (m * 2 ^ at')) = l.length + 7) ↔ turnL (frameL k l) (m * 2 ^ at') = frameL k l := by
  have hfl := frame_len k l
  constructor
  · rintro ⟨h0, hn⟩
    have hz := readE_zero h0
    obtain ⟨t, ht⟩ : ∃ t, turnL (frameL k l) (m * 2 ^ at') = t := ⟨_, rfl⟩
    have htl : t.length = l.length + 7 := by rw [← ht, turnL_len, hfl]
    have hp : headF k l ++ l = (frameL k l).take (l.length + 3) := by
      have e := seal_take (headF k l ++ l)
      rw [show (headF k l ++ l).length = l.length + 3 from by simp [headF]] at e
      exact e.symm
    have hbp : ∀ x ∈ headF k l ++ l, x < 256 := by
      intro x hx
      rcases List.mem_append.1 hx with h | h
      · simp [headF] at h; omega
      · exact hb x h
    have hpl : (headF k l ++ l).length = l.length + 3 := by simp [headF]
    have hturn : t.take (l.length + 3) = turnL (headF k l ++ l) (m * 2 ^ at') := by
      rw [← ht, turnL_take _ _ _ (by omega), ← hp]
    rw [ht] at h0 hn hz hsame ⊢
    unfold readN at hn
    rw [if_pos h0] at hn
    have h3 := hz.2.2.2.1
    rw [show lenOf t = l.length from by omega, List.take_of_length_le (by omega)] at h3
    have hs := (openL_some h3).2.2
    have e1 : t.drop (l.length + 3) = sum4 (sumL (t.take (l.length + 3))) := by
      have : (sealL (t.take (l.length + 3))).drop (l.length + 3) = sum4 (sumL (t.take (l.length + 3))) := by
        unfold sealL
        rw [List.drop_append, List.drop_of_length_le (by rw [List.length_take]; omega), List.length_take, Nat.min_eq_left (by omega)]
        simp
      rw [hs] at this; exact this
    have e2 : (frameL k l).drop (l.length + 3) = sum4 (sumL (headF k l ++ l)) := by
      unfold frameL sealL
      rw [List.drop_append, List.drop_of_length_le (by rw [hpl]; omega), hpl]
      simp
    rw [e1, e2, hturn] at hsame
    have hsum := sum4_inj (sumL_lt _) (sumL_lt _) hsame
    have hsame2 := (turn_sum (headF k l ++ l) hbp at' m (by rw [hpl]; exact hat) hm).1 hsum
    rw [← hs, hturn, hsame2]
    rfl
  · intro h
    have := read_frame k l [] hk0 hl
    rw [List.append_nil] at this
    rw [h]
    exact ⟨this.1, this.2.2.2⟩

/-- The frames that stand one behind the other from a place on, each with its place, kind and body. -/
def scanL (l : List Nat) (at' : Nat) : List (Nat × Nat × List Nat) :=
  if at' < l.length then
    if h : readE (l.drop at') = 0 then (at', readK (l.drop at'), readB (l.drop at')) :: scanL l (at' + readN (l.drop at')) else []
  else []
termination_by l.length - at'
decreasing_by have := readN_pos h; omega
/-- Where the last one ends. -/
def scanE (l : List Nat) (at' : Nat) : Nat :=
  if at' < l.length then
    if h : readE (l.drop at') = 0 then scanE l (at' + readN (l.drop at')) else at'
  else at'
termination_by l.length - at'
decreasing_by have := readN_pos h; omega
/-- Why there is no more. -/
def scanW (l : List Nat) : Nat := if scanE l 0 = l.length then 0 else readE (l.drop (scanE l 0))
theorem scanL_step {l : List Nat} {a : Nat} (h : a < l.length) (hz : readE (l.drop a) = 0) : scanL l a = (a, readK (l.drop a), readB (l.drop a)) :: scanL l (a + readN (l.drop a)) := by
  rw [scanL, if_pos h, dif_pos hz]
theorem scanL_bad {l : List Nat} {a : Nat} (hz : readE (l.drop a) ≠ 0) : scanL l a = [] := by
  rw [scanL]
  simp [hz]
theorem scanL_end {l : List Nat} {a : Nat} (h : l.length ≤ a) : scanL l a = [] := by
  rw [scanL, if_neg (by omega)]
theorem scanE_step {l : List Nat} {a : Nat} (h : a < l.length) (hz : readE (l.drop a) = 0) : scanE l a = scanE l (a + readN (l.drop a)) := by
  rw [scanE, if_pos h, dif_pos hz]
theorem scanE_bad {l : List Nat} {a : Nat} (hz : readE (l.drop a) ≠ 0) : scanE l a = a := by
  rw [scanE]
  simp [hz]
theorem scanE_end {l : List Nat} {a : Nat} (h : l.length ≤ a) : scanE l a = a := by
  rw [scanE, if_neg (by omega)]
theorem step_le {l : List Nat} {a : Nat} (h : a < l.length) (hz : readE (l.drop a) = 0) : a + readN (l.drop a) ≤ l.length ∧ a < a + readN (l.drop a) := by
  have := readN_pos hz
  rw [List.length_drop] at this
  omega
theorem scanE_le (l : List Nat) : ∀ (n a : Nat), l.length - a ≤ n → a ≤ l.length → a ≤ scanE l a ∧ scanE l a ≤ l.length
  | 0, a, h, ha => by rw [scanE_end (by omega)]; omega
  | n + 1, a, h, ha => by
    by_cases hlt : a < l.length
    · by_cases hz : readE (l.drop a) = 0
      · have hs := step_le hlt hz
        have := scanE_le l n (a + readN (l.drop a)) (by omega) hs.1
        rw [scanE_step hlt hz]; omega
      · rw [scanE_bad hz]; omega
    · rw [scanE_end (by omega)]; omega
/-- Where frames end is behind the last of them. -/
theorem scan_last (l : List Nat) : ∀ (n a : Nat), l.length - a ≤ n → a ≤ l.length → scanE l a = ((scanL l a).getLast?.map fun x => x.1 + (x.2.2.length + 7)).getD a
  | 0, a, h, ha => by rw [scanE_end (by omega), scanL_end (by omega)]; rfl
  | n + 1, a, h, ha => by
    by_cases hlt : a < l.length
    · by_cases hz : readE (l.drop a) = 0
      · have hs := step_le hlt hz
        have hp := readN_pos hz
        have := scan_last l n (a + readN (l.drop a)) (by omega) hs.1
        rw [scanE_step hlt hz, scanL_step hlt hz, this]
        cases hq : scanL l (a + readN (l.drop a)) with
        | nil => simp; omega
        | cons x xs =>
          rw [List.getLast?_cons_cons]
          obtain ⟨y, hy⟩ : ∃ y, (x :: xs).getLast? = some y := ⟨_, List.getLast?_eq_some_getLast (by simp)⟩
          rw [hy]; rfl
      · rw [scanE_bad hz, scanL_bad hz]; rfl
    · rw [scanE_end (by omega), scanL_end (by omega)]; rfl
end Go.Proofs.Ytpllbojmonfeiaa
