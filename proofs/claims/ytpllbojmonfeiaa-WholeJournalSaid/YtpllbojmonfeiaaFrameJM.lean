/- Frames one behind the other, as lists of bytes. -/
import Derived.Test.YtpllbojmonfeiaaFrameLaws
import Derived.Test.YtpllbojmonfeiaaFrameD
namespace Go.Proofs.Ytpllbojmonfeiaa
open Go.RowKit SumM
set_option linter.unusedVariables false

/-- A frame that can be kept. -/
def okF (x : Nat × List Nat) : Prop := x.1 ≠ 0 ∧ x.1 < 256 ∧ x.2.length ≤ 4096 ∧ ∀ y ∈ x.2, y < 256
def joinF (ks : List (Nat × List Nat)) : List Nat := (ks.map fun x => frameL x.1 x.2).flatten
/-- The same, each with the place where it begins. -/
def posF : Nat → List (Nat × List Nat) → List (Nat × Nat × List Nat)
  | _, [] => []
  | a, x :: ks => (a, x.1, x.2) :: posF (a + (x.2.length + 7)) ks
theorem posF_len : ∀ (ks : List (Nat × List Nat)) (a : Nat), (posF a ks).length = ks.length
  | [], _ => rfl
  | x :: ks, a => by show (posF _ ks).length + 1 = _; rw [posF_len ks]; rfl
theorem posF_map : ∀ (ks : List (Nat × List Nat)) (a : Nat), (posF a ks).map Prod.snd = ks
  | [], _ => rfl
  | x :: ks, a => by show x :: (posF _ ks).map Prod.snd = _; rw [posF_map ks]
theorem joinF_snoc (ks : List (Nat × List Nat)) (x : Nat × List Nat) : joinF (ks ++ [x]) = joinF ks ++ frameL x.1 x.2 := by simp [joinF]
theorem joinF_bytes {ks : List (Nat × List Nat)} (h : ∀ x ∈ ks, okF x) : ∀ y ∈ joinF ks, y < 256 := by
  intro y hy
  obtain ⟨l, hl, hy⟩ := List.mem_flatten.1 hy
  obtain ⟨x, hx, rfl⟩ := List.mem_map.1 hl
  obtain ⟨_, h2, h3, h4⟩ := h x hx
  exact frame_bytes h2 h3 h4 y hy
theorem joinF_len {ks : List (Nat × List Nat)} {m : Nat} (h : ∀ x ∈ ks, x.2.length ≤ m) : (joinF ks).length ≤ ks.length * (m + 7) := by
  induction ks with
  | nil => simp [joinF]
  | cons x ks ih =>
    have e : joinF (x :: ks) = frameL x.1 x.2 ++ joinF ks := by simp [joinF]
    have h1 := ih (fun y hy => h y (by simp [hy]))
    have h2 := h x (by simp)
    rw [e, List.length_append, frame_len, List.length_cons, Nat.succ_mul]
    omega
theorem scan_join (rest : List Nat) (hr : rest = [] ∨ readE rest ≠ 0) : ∀ (ks : List (Nat × List Nat)) (p : List Nat), (∀ x ∈ ks, okF x) →
    scanL (p ++ (joinF ks ++ rest)) p.length = posF p.length ks ∧ scanE (p ++ (joinF ks ++ rest)) p.length = p.length + (joinF ks).length
  | [], p, _ => by
    have e : joinF [] = [] := rfl
    rw [e, List.nil_append]
    rcases hr with rfl | hr
    · rw [List.append_nil, scanL_end (Nat.le_refl _), scanE_end (Nat.le_refl _)]
      exact ⟨rfl, rfl⟩
    · have hd : (p ++ rest).drop p.length = rest := by simp
      rw [scanL_bad (by rw [hd]; exact hr), scanE_bad (by rw [hd]; exact hr)]
      exact ⟨rfl, rfl⟩
  | x :: ks, p, h => by
    obtain ⟨h1, h2, h3, h4⟩ := h x (by simp)
    have e : joinF (x :: ks) = frameL x.1 x.2 ++ joinF ks := by simp [joinF]
    have hd : (p ++ (joinF (x :: ks) ++ rest)).drop p.length = frameL x.1 x.2 ++ (joinF ks ++ rest) := by rw [List.drop_left, e, List.append_assoc]
    obtain ⟨r1, r2, r3, r4⟩ := read_frame x.1 x.2 (joinF ks ++ rest) h1 h3
    have hlt : p.length < (p ++ (joinF (x :: ks) ++ rest)).length := by
      rw [List.length_append, e, List.length_append, List.length_append, frame_len]; omega
    have ih := scan_join rest hr ks (p ++ frameL x.1 x.2) (fun y hy => h y (by simp [hy]))
    have hpl : (p ++ frameL x.1 x.2).length = p.length + (x.2.length + 7) := by rw [List.length_append, frame_len]
    have hpp : p ++ (joinF (x :: ks) ++ rest) = p ++ frameL x.1 x.2 ++ (joinF ks ++ rest) := by rw [e]; simp
    rw [hpl, ← hpp] at ih
    rw [scanL_step hlt (by rw [hd]; exact r1), scanE_step hlt (by rw [hd]; exact r1), hd, r2, r3, r4, ih.1, ih.2]
    refine ⟨rfl, ?_⟩
    rw [e, List.length_append, frame_len]; omega
theorem scan_join0 (ks : List (Nat × List Nat)) (rest : List Nat) (hr : rest = [] ∨ readE rest ≠ 0) (h : ∀ x ∈ ks, okF x) :
    scanL (joinF ks ++ rest) 0 = posF 0 ks ∧ scanE (joinF ks ++ rest) 0 = (joinF ks).length := by
  have := scan_join rest hr ks [] h
  simpa using this
theorem scanW_join (ks : List (Nat × List Nat)) (rest : List Nat) (n : Nat) (hr : (rest = [] ∧ n = 0) ∨ (rest ≠ [] ∧ readE rest = n ∧ n ≠ 0)) (h : ∀ x ∈ ks, okF x) : scanW (joinF ks ++ rest) = n := by
  have h2 := (scan_join0 ks rest (hr.imp (fun h => h.1) (fun h => by rw [h.2.1]; exact h.2.2)) h).2
  unfold scanW
  rw [h2]
  rcases hr with ⟨rfl, rfl⟩ | ⟨h0, h1, _⟩
  · rw [List.append_nil, if_pos rfl]
  · have : rest.length ≠ 0 := fun e => h0 (List.eq_nil_of_length_eq_zero e)
    rw [List.length_append, if_neg (by omega), List.drop_left, h1]

/-- What is kept of some frames. -/
def keepF : List (Int × List Nat) → List (Nat × List Nat)
  | [] => []
  | x :: xs => if writeE x.1 x.2 = 0 then (x.1.toNat, x.2) :: keepF xs else keepF xs
theorem keepF_snoc (xs : List (Int × List Nat)) (x : Int × List Nat) : keepF (xs ++ [x]) = if writeE x.1 x.2 = 0 then keepF xs ++ [(x.1.toNat, x.2)] else keepF xs := by
  induction xs with
  | nil => show keepF [x] = _; unfold keepF; split <;> rfl
  | cons y xs ih =>
    show keepF (y :: (xs ++ [x])) = _
    unfold keepF
    rw [ih]
    split <;> split <;> rfl
theorem keepF_len (xs : List (Int × List Nat)) : (keepF xs).length ≤ xs.length := by
  induction xs with
  | nil => exact Nat.le_refl _
  | cons y xs ih => unfold keepF; split <;> simp <;> omega
theorem keepF_ok {xs : List (Int × List Nat)} (h : ∀ x ∈ xs, ∀ y ∈ x.2, y < 256) : ∀ x ∈ keepF xs, okF x := by
  induction xs with
  | nil => intro x hx; cases hx
  | cons y xs ih =>
    intro x hx
    unfold keepF at hx
    split at hx
    · rename_i hz
      rcases List.mem_cons.1 hx with rfl | hx
      · obtain ⟨h1, h2, h3⟩ := writeE_zero hz
        exact ⟨by show y.1.toNat ≠ 0; omega, by show y.1.toNat < 256; omega, h3, h y (by simp)⟩
      · exact ih (fun z hz => h z (by simp [hz])) x hx
    · exact ih (fun z hz => h z (by simp [hz])) x hx
theorem keepF_short {xs : List (Int × List Nat)} {m : Nat} (h : ∀ x ∈ xs, x.2.length ≤ m) : ∀ x ∈ keepF xs, x.2.length ≤ m := by
  induction xs with
  | nil => intro x hx; cases hx
  | cons y xs ih =>
    intro x hx
    unfold keepF at hx
    split at hx
    · rcases List.mem_cons.1 hx with rfl | hx
      · exact h y (by simp)
      · exact ih (fun z hz => h z (by simp [hz])) x hx
    · exact ih (fun z hz => h z (by simp [hz])) x hx
end Go.Proofs.Ytpllbojmonfeiaa
