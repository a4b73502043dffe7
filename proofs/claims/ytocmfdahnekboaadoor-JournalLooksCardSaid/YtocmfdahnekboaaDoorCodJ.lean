/- What is read of what is written: plain mathematics. -/
import Derived.Test.YtocmfdahnekboaaDoorCodU
import Derived.Test.YtocmfdahnekboaaDoorCodQ
namespace Go.Proofs.YtocmfdahnekboaaDoor
open Go.RowKit
set_option linter.unusedVariables false

theorem uv_shape (n : Nat) : ∃ p x, uv n = p ++ [x] ∧ (∀ y ∈ p, 128 ≤ y) ∧ x < 128 ∧ (p ≠ [] → x ≠ 0) ∧ (n ≠ 0 → p = [] → x ≠ 0) := by
  induction n using Nat.strongRecOn with
  | _ n ih =>
    by_cases h : n < 128
    · exact ⟨[], n, by rw [uv_lt h]; rfl, (fun y hy => by cases hy), h, (fun h => absurd rfl h), fun h _ => h⟩
    · obtain ⟨p, x, e, h1, h2, h3, h4⟩ := ih (n / 128) (by omega)
      refine ⟨(128 + n % 128) :: p, x, by rw [uv_ge (by omega), e]; rfl, fun y hy => ?_, h2, fun _ => ?_, fun _ h => by cases h⟩
      · rcases List.mem_cons.1 hy with rfl | hy
        · omega
        · exact h1 y hy
      · cases p with
        | nil => exact h4 (by omega) rfl
        | cons a p => exact h3 (by simp)
theorem valL_uv (n : Nat) : valL (uv n) = n := by
  induction n using Nat.strongRecOn with
  | _ n ih =>
    by_cases h : n < 128
    · rw [uv_lt h]; simp only [valL]; omega
    · rw [uv_ge (by omega)]
      simp only [valL]
      rw [ih (n / 128) (by omega)]
      omega
theorem whole_uv {n : Nat} (hn : n < 18446744073709551616) (rest : List Nat) : wholeR (uv n ++ rest) = (n, (uv n).length, 0) := by
  obtain ⟨p, x, e, h1, h2, h3, _⟩ := uv_shape n
  have hv := valL_uv n
  have hl := uv_len10 hn
  have hlen : (uv n).length = p.length + 1 := by rw [e]; simp
  have hx : (uv n ++ rest)[p.length]? = some x := by rw [e]; simp
  have hk : lastI (uv n ++ rest) = (p.length : Nat) := lastI_found (fun j y hj hy => by
    rw [e, List.append_assoc, List.getElem?_append_left hj] at hy
    exact h1 y (List.mem_of_getElem? hy)) hx h2
  have hg : (uv n ++ rest).getD p.length 0 = x := by rw [List.getD_eq_getElem?_getD, hx]; rfl
  have ht : (uv n ++ rest).take (p.length + 1) = uv n := by rw [← hlen]; exact List.take_left
  have h9 : p.length = 9 → x ≤ 1 := fun h => by
    rw [e, valL_snoc, h] at hv
    have : x % 128 = x := by omega
    rw [this] at hv
    omega
  unfold wholeR
  rw [hk, if_neg (by omega), Int.toNat_natCast, hg, if_neg, ht, hv, hlen]
  rintro (h | ⟨h, h'⟩ | ⟨h, h'⟩)
  · omega
  · have := h9 h; omega
  · exact h3 (by intro h0; rw [h0] at h; simp at h) h'
theorem whole_take {n j : Nat} (hj : j < (uv n).length) : wholeR ((uv n).take j) = (0, 0, 21) := by
  obtain ⟨p, x, e, h1, h2, h3, _⟩ := uv_shape n
  have hk : lastI ((uv n).take j) = -1 := lastI_none (fun i y hi hy => by
    rw [e] at hj hy
    rw [List.length_append, List.length_singleton] at hj
    rw [List.take_append_of_le_length (by omega)] at hy
    exact h1 y (List.mem_of_mem_take (List.mem_of_getElem? hy)))
  unfold wholeR; rw [hk]; rfl
theorem uv_of_val (x : Nat) (hx : x < 128) : ∀ (p : List Nat), (∀ y ∈ p, 128 ≤ y ∧ y < 256) → (p ≠ [] → x ≠ 0) → uv (valL (p ++ [x])) = p ++ [x]
  | [], _, _ => by
    have e : valL ([] ++ [x]) = x := by simp only [List.nil_append, valL]; omega
    rw [e, uv_lt hx]; rfl
  | y :: p, h, h0 => by
    have ih := uv_of_val x hx p (fun z hz => h z (List.mem_cons_of_mem _ hz)) (fun _ => h0 (by simp))
    have hy := h y (List.mem_cons_self ..)
    have hx0 := h0 (by simp)
    have hpos : 1 ≤ valL (p ++ [x]) := by
      rw [valL_snoc]
      have : 1 * 1 ≤ x % 128 * 128 ^ p.length := Nat.mul_le_mul (by omega) (Nat.pow_pos (by decide))
      omega
    have e : valL (y :: p ++ [x]) = y % 128 + 128 * valL (p ++ [x]) := rfl
    rw [e]
    rw [uv_ge (by omega), show (y % 128 + 128 * valL (p ++ [x])) / 128 = valL (p ++ [x]) from by omega, ih, show 128 + (y % 128 + 128 * valL (p ++ [x])) % 128 = y from by omega]
    rfl
theorem whole_canon {l : List Nat} (hl : Bytes l) (h : (wholeR l).2.2 = 0) : l.take (wholeR l).2.1 = uv (wholeR l).1 := by
  rcases lastI_cases l with hk | ⟨k, x, hk, hx, hlow, hb⟩
  · have e : wholeR l = (0, 0, 21) := by unfold wholeR; rw [hk]; rfl
    rw [e] at h; cases h
  · have hkl := (List.getElem?_eq_some_iff.1 hx).1
    have hg : l.getD k 0 = x := by rw [List.getD_eq_getElem?_getD, hx]; rfl
    have e0 : wholeR l = if 10 ≤ k ∨ (k = 9 ∧ 1 < x) ∨ (0 < k ∧ x = 0) then (0, 0, 20) else (valL (l.take (k + 1)), k + 1, 0) := by
      unfold wholeR
      rw [hk, if_neg (by omega), Int.toNat_natCast, hg]
    by_cases hc : 10 ≤ k ∨ (k = 9 ∧ 1 < x) ∨ (0 < k ∧ x = 0)
    · rw [e0, if_pos hc] at h; cases h
    · rw [e0, if_neg hc]
      show l.take (k + 1) = uv (valL (l.take (k + 1)))
      rw [take_one _ _ _ hx]
      refine (uv_of_val x hlow (l.take k) (fun y hy => ?_) (fun hne => ?_)).symm
      · obtain ⟨j, hj, e⟩ := List.getElem_of_mem hy
        rw [List.length_take] at hj
        rw [List.getElem_take] at e
        exact ⟨hb j y (by omega) (by rw [← e]; exact List.getElem?_eq_getElem _), hl.2 y (by rw [← e]; exact List.getElem_mem _)⟩
      · intro h0
        refine hc (.inr (.inr ⟨?_, h0⟩))
        rcases Nat.eq_zero_or_pos k with hk0 | hk0
        · subst hk0; simp at hne
        · exact hk0

theorem zag_in {u : Nat} (h : u < 18446744073709551616) : In64 (zag u) := by unfold zag In64; split <;> omega
theorem zig_zag {u : Nat} (h : u < 18446744073709551616) : zig (zag u) = u := by unfold zag zig; split <;> split <;> omega

theorem uintR_uv {n : Nat} (hn : n < 18446744073709551616) (rest : List Nat) (e : Nat) : uintR (uv n ++ rest) e = (rest, e) := by
  unfold uintR
  rw [whole_uv hn, if_pos rfl]
  simp
theorem uintR_take {n j : Nat} (hj : j < (uv n).length) : uintR ((uv n).take j) 0 = ([], 21) := by
  unfold uintR
  rw [whole_take hj]
  rfl
theorem uintR_nil (e : Nat) : uintR [] e = ([], if e = 0 then 21 else e) := by unfold uintR; rw [wholeR_nil]; rfl
/-- Behind a whole number that is well. -/
theorem uintR_canon {l : List Nat} (hl : Bytes l) (h : (uintR l 0).2 = 0) : l = uv (wholeR l).1 ++ (uintR l 0).1 := by
  by_cases hg : (wholeR l).2.2 = 0
  · have hc := whole_canon hl hg
    unfold uintR
    rw [if_pos hg, ← hc, List.take_append_drop]
  · unfold uintR at h
    rw [if_neg hg] at h
    exact absurd h hg

/-- The next k numbers with a sign, what is left, what went wrong. -/
def intsR : Nat → List Nat → Nat → List Int × List Nat × Nat
  | 0, l, e => ([], l, e)
  | k + 1, l, e => if (uintR l e).2 = 0 then (zag (wholeR l).1 :: (intsR k (uintR l e).1 (uintR l e).2).1, (intsR k (uintR l e).1 (uintR l e).2).2) else ([], uintR l e)
theorem intsR_uvs : ∀ (xs : List Int) (_ : ∀ m ∈ xs, In64 m) (rest : List Nat), intsR xs.length (uvs xs ++ rest) 0 = (xs, rest, 0)
  | [], _, rest => rfl
  | m :: xs, h, rest => by
    have hm := h m (List.mem_cons_self ..)
    have e : uvs (m :: xs) = uv (zig m) ++ uvs xs := by simp [uvs]
    have hz := zig_lt hm.1 hm.2
    rw [List.length_cons]
    unfold intsR
    rw [e, List.append_assoc, uintR_uv hz, whole_uv hz, if_pos rfl, intsR_uvs xs (fun x hx => h x (List.mem_cons_of_mem _ hx)) rest, zag_zig]
theorem intsR_bad (k : Nat) {e : Nat} (he : e ≠ 0) : intsR k [] e = ([], [], e) := by
  cases k with
  | zero => rfl
  | succ k => unfold intsR; rw [uintR_nil, if_neg he, if_neg (by exact he)]
theorem intsR_take : ∀ (xs : List Int) (_ : ∀ m ∈ xs, In64 m) (j : Nat), j < (uvs xs).length → (intsR xs.length ((uvs xs).take j) 0).2 = ([], 21)
  | [], _, j, hj => by simp [uvs] at hj
  | m :: xs, h, j, hj => by
    have hm := h m (List.mem_cons_self ..)
    have e : uvs (m :: xs) = uv (zig m) ++ uvs xs := by simp [uvs]
    have hz := zig_lt hm.1 hm.2
    rw [e, List.length_append] at hj
    rw [List.length_cons]
    unfold intsR
    rw [e]
    by_cases hlt : j < (uv (zig m)).length
    · rw [List.take_append_of_le_length (by omega), uintR_take hlt]
      rfl
    · obtain ⟨i, rfl⟩ : ∃ i, j = (uv (zig m)).length + i := ⟨j - (uv (zig m)).length, by omega⟩
      rw [List.take_length_add_append, uintR_uv hz, if_pos rfl]
      exact intsR_take xs (fun x hx => h x (List.mem_cons_of_mem _ hx)) i (by omega)
theorem Bytes.drop_ {l : List Nat} (h : Bytes l) (k : Nat) : Bytes (l.drop k) := ⟨by have := h.1; rw [List.length_drop]; omega, fun x hx => h.2 x (List.mem_of_mem_drop hx)⟩
theorem Bytes.nil_ : Bytes [] := ⟨by decide, fun x hx => by cases hx⟩
theorem uintR_bytes {l : List Nat} (hl : Bytes l) (e : Nat) : Bytes (uintR l e).1 := by
  unfold uintR
  split
  · exact hl.drop_ _
  · exact Bytes.nil_
theorem uintR_le (l : List Nat) (e : Nat) : (uintR l e).1.length ≤ l.length := by
  unfold uintR
  split
  · simp [List.length_drop]
  · simp
theorem intsR_canon : ∀ (k : Nat) (l : List Nat), Bytes l → (intsR k l 0).2.2 = 0 → l = uvs (intsR k l 0).1 ++ (intsR k l 0).2.1 ∧ (intsR k l 0).1.length = k ∧ ∀ m ∈ (intsR k l 0).1, In64 m
  | 0, l, _, _ => ⟨rfl, rfl, fun m hm => by cases hm⟩
  | k + 1, l, hl, h => by
    unfold intsR at h ⊢
    by_cases h0 : (uintR l 0).2 = 0
    · rw [if_pos h0] at h ⊢
      rw [h0] at h ⊢
      have ih := intsR_canon k (uintR l 0).1 (uintR_bytes hl 0) h
      have hc := uintR_canon hl h0
      have hlt := wholeR_lt l
      refine ⟨?_, by simp only [List.length_cons]; rw [ih.2.1], fun m hm => ?_⟩
      · have e : ∀ (m : Int) (xs : List Int), uvs (m :: xs) = uv (zig m) ++ uvs xs := fun m xs => by simp [uvs]
        show l = uvs (zag (wholeR l).1 :: _) ++ _
        rw [e, zig_zag hlt, List.append_assoc, ← ih.1]
        exact hc
      · rcases List.mem_cons.1 hm with rfl | hm
        · exact zag_in hlt
        · exact ih.2.2 m hm
    · rw [if_neg h0] at h
      exact absurd h h0

/-- How many there are, what is left, what went wrong. -/
def countR (l : List Nat) (e most t : Nat) : Nat × List Nat × Nat :=
  if most < (wholeR l).1 then (0, [], if (uintR l e).2 = 0 then t else (uintR l e).2) else ((wholeR l).1, uintR l e)
theorem countR_le (l : List Nat) (e most t : Nat) : (countR l e most t).1 ≤ most := by
  unfold countR
  split
  · exact Nat.zero_le _
  · show (wholeR l).1 ≤ most
    omega
theorem countR_uv {n most : Nat} (hn : n ≤ most) (hm : most < 18446744073709551616) (rest : List Nat) (e t : Nat) : countR (uv n ++ rest) e most t = (n, rest, e) := by
  unfold countR
  rw [whole_uv (by omega), if_neg (by show ¬ most < n; omega), uintR_uv (by omega)]
theorem countR_take {n j : Nat} (hj : j < (uv n).length) (most t : Nat) : countR ((uv n).take j) 0 most t = (0, [], 21) := by
  unfold countR
  rw [whole_take hj, uintR_take hj, if_neg (by simp)]
theorem countR_bad (most t : Nat) {e : Nat} (he : e ≠ 0) : countR [] e most t = (0, [], e) := by
  unfold countR
  rw [wholeR_nil, uintR_nil, if_neg he, if_neg (by simp)]
theorem countR_bytes {l : List Nat} (hl : Bytes l) (e most t : Nat) : Bytes (countR l e most t).2.1 := by
  unfold countR
  split
  · exact Bytes.nil_
  · exact uintR_bytes hl e
/-- Bytes that are taken: they, what is left, what went wrong. -/
def takeB (l : List Nat) (e most : Nat) : List Nat × List Nat × Nat :=
  if (countR l e most 2).2.1.length < (countR l e most 2).1 then ([], [], if (countR l e most 2).2.2 = 0 then 21 else (countR l e most 2).2.2)
  else ((countR l e most 2).2.1.take (countR l e most 2).1, (countR l e most 2).2.1.drop (countR l e most 2).1, (countR l e most 2).2.2)
theorem takeB_ok {s : List Nat} {most : Nat} (hs : s.length ≤ most) (hm : most < 18446744073709551616) (rest : List Nat) (e : Nat) : takeB (uv s.length ++ (s ++ rest)) e most = (s, rest, e) := by
  unfold takeB
  rw [countR_uv hs hm, if_neg (by simp)]
  simp
/-- A list that is taken: it, what is left, what went wrong. -/
def takeN (l : List Nat) (e most : Nat) : List Int × List Nat × Nat :=
  (if (intsR (countR l e most 3).1 (countR l e most 3).2.1 (countR l e most 3).2.2).2.2 = 0 then (intsR (countR l e most 3).1 (countR l e most 3).2.1 (countR l e most 3).2.2).1 else [], (intsR (countR l e most 3).1 (countR l e most 3).2.1 (countR l e most 3).2.2).2)
theorem takeN_ok {xs : List Int} (hx : ∀ m ∈ xs, In64 m) {most : Nat} (hs : xs.length ≤ most) (hm : most < 18446744073709551616) (rest : List Nat) : takeN (listL xs ++ rest) 0 most = (xs, rest, 0) := by
  unfold takeN listL
  rw [List.append_assoc, countR_uv hs hm, intsR_uvs xs hx rest]
  rfl
theorem takeN_bad (most : Nat) {e : Nat} (he : e ≠ 0) : takeN [] e most = ([], [], e) := by
  unfold takeN
  rw [countR_bad most 3 he]
  show ((if e = 0 then _ else _), _) = _
  rw [if_neg he]
  rfl
theorem takeN_canon {l : List Nat} (hl : Bytes l) (most : Nat) (h1 : (takeN l 0 most).2 = ([], 0)) : l = listL (takeN l 0 most).1 ∧ (takeN l 0 most).1.length ≤ most ∧ ∀ m ∈ (takeN l 0 most).1, In64 m := by
  unfold takeN at h1 ⊢
  have h2 : (intsR (countR l 0 most 3).1 (countR l 0 most 3).2.1 (countR l 0 most 3).2.2).2.2 = 0 := by rw [show (intsR (countR l 0 most 3).1 (countR l 0 most 3).2.1 (countR l 0 most 3).2.2).2 = ([], 0) from h1]
  have h3 : (intsR (countR l 0 most 3).1 (countR l 0 most 3).2.1 (countR l 0 most 3).2.2).2.1 = [] := by rw [show (intsR (countR l 0 most 3).1 (countR l 0 most 3).2.1 (countR l 0 most 3).2.2).2 = ([], 0) from h1]
  rw [if_pos h2]
  by_cases hc : most < (wholeR l).1
  · exfalso
    have e : countR l 0 most 3 = (0, [], if (uintR l 0).2 = 0 then 3 else (uintR l 0).2) := if_pos hc
    rw [e] at h2
    have h4 : (if (uintR l 0).2 = 0 then 3 else (uintR l 0).2) = 0 := h2
    split at h4 <;> omega
  · have e : countR l 0 most 3 = ((wholeR l).1, uintR l 0) := if_neg hc
    rw [e] at h2 h3 ⊢
    have h0 : (uintR l 0).2 = 0 := by
      apply Decidable.byContradiction
      intro hne
      have hb : (uintR l 0).1 = [] := by
        unfold uintR at hne ⊢
        split
        · rename_i hg; rw [if_pos hg] at hne; exact absurd rfl hne
        · rfl
      have h5 : intsR (wholeR l).1 (uintR l 0).1 (uintR l 0).2 = ([], [], (uintR l 0).2) := by rw [hb]; exact intsR_bad _ hne
      have h6 : (intsR (wholeR l).1 (uintR l 0).1 (uintR l 0).2).2.2 = 0 := h2
      rw [h5] at h6
      exact hne h6
    have hcn := uintR_canon hl h0
    have h7 : (intsR (wholeR l).1 (uintR l 0).1 0).2.2 = 0 := by rw [← h0]; rw [h0] at h2 ⊢; exact h2
    obtain ⟨i1, i2, i3⟩ := intsR_canon (wholeR l).1 (uintR l 0).1 (uintR_bytes hl 0) h7
    have h8 : (intsR (wholeR l).1 (uintR l 0).1 0).2.1 = [] := by rw [← h0]; rw [h0] at h3 ⊢; exact h3
    rw [h8, List.append_nil] at i1
    show l = listL (intsR (wholeR l).1 (uintR l 0).1 (uintR l 0).2).1 ∧ (intsR (wholeR l).1 (uintR l 0).1 (uintR l 0).2).1.length ≤ most ∧ _
    rw [h0]
    refine ⟨?_, by rw [i2]; omega, i3⟩
    unfold listL
    rw [i2, ← i1]
    exact hcn
end Go.Proofs.YtocmfdahnekboaaDoor
