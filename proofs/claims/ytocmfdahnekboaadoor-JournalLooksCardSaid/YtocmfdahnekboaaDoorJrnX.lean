/- Regions as rows of frames. -/
import Derived.Test.YtocmfdahnekboaaDoorJrnG
import Derived.Test.YtocmfdahnekboaaDoorFrameJ
import Derived.Test.YtocmfdahnekboaaDoorCodJ
namespace Go.Proofs.YtocmfdahnekboaaDoor
open Go.RowKit SumM
set_option linter.unusedVariables false

/-- How many of some frames the order takes, and what it comes to. -/
def takeK (s : OrdS) : List (Nat × List Nat) → Nat
  | [] => 0
  | x :: xs => if (takeS s x.1 x.2).2 = true then takeK (takeS s x.1 x.2).1 xs + 1 else 0
def endK (s : OrdS) : List (Nat × List Nat) → OrdS
  | [] => s
  | x :: xs => if (takeS s x.1 x.2).2 = true then endK (takeS s x.1 x.2).1 xs else (takeS s x.1 x.2).1
/-- How many of a kind. -/
def cntK (k : Nat) (ks : List (Nat × List Nat)) : Nat := (ks.filter fun x => x.1 == k).length
/-- The bodies of a kind. -/
def bodK (k : Nat) (ks : List (Nat × List Nat)) : List (List Nat) := (ks.filter fun x => x.1 == k).map Prod.snd
abbrev o0 : OrdS := ⟨0, 0, false⟩
theorem takeK_le : ∀ (ks : List (Nat × List Nat)) (s : OrdS), takeK s ks ≤ ks.length
  | [], _ => Nat.le_refl _
  | x :: xs, s => by
    unfold takeK
    split
    · have := takeK_le xs (takeS s x.1 x.2).1
      rw [List.length_cons]; omega
    · exact Nat.zero_le _
theorem joinF_cons (x : Nat × List Nat) (ks : List (Nat × List Nat)) : joinF (x :: ks) = frameL x.1 x.2 ++ joinF ks := by simp [joinF]
theorem joinF_append (a b : List (Nat × List Nat)) : joinF (a ++ b) = joinF a ++ joinF b := by simp [joinF]
theorem cntK_cons (k : Nat) (x : Nat × List Nat) (ks : List (Nat × List Nat)) : cntK k (x :: ks) = (if x.1 = k then 1 else 0) + cntK k ks := by
  unfold cntK
  rw [List.filter_cons]
  split
  · rename_i h
    rw [if_pos (by simpa using h), List.length_cons]; omega
  · rename_i h
    rw [if_neg (by simpa using h)]; omega
theorem goS_pos : ∀ (ks : List (Nat × List Nat)) (s : OrdS) (c a : Nat), goS s c a (posF a ks) = (endK s ks, c + cntK 4 (ks.take (takeK s ks)), a + (joinF (ks.take (takeK s ks))).length)
  | [], s, c, a => by simp [posF, goS, endK, takeK, cntK, joinF]
  | x :: xs, s, c, a => by
    show (if (takeS s x.1 x.2).2 = true then _ else _) = _
    unfold endK takeK
    by_cases h : (takeS s x.1 x.2).2 = true
    · rw [if_pos h, if_pos h, if_pos h, List.take_succ_cons, cntK_cons, joinF_cons, List.length_append, frame_len]
      show goS (takeS s x.1 x.2).1 (if x.1 = 4 then c + 1 else c) (a + (x.2.length + 7)) (posF (a + (x.2.length + 7)) xs) = _
      rw [goS_pos xs]
      congr 2
      · split <;> omega
      · omega
    · rw [if_neg h, if_neg h, if_neg h]
      simp [cntK, joinF]

/-- What is read as a frame is one. -/
theorem frame_of_read {t : List Nat} (hb : ∀ x ∈ t, x < 256) (h : readE t = 0) : t = frameL (readK t) (readB t) ++ t.drop (readN t) ∧ okF (readK t, readB t) := by
  obtain ⟨h2, h4, h7, ho, hk⟩ := readE_zero h
  obtain ⟨_, _, hs⟩ := openL_some ho
  have hK : readK t = t.getD 2 0 := by unfold readK; rw [if_pos h]
  have hB : readB t = (t.take (lenOf t + 3)).drop 3 := by unfold readB; rw [if_pos h]
  have hN : readN t = lenOf t + 7 := by unfold readN; rw [if_pos h]
  have hBl := readB_len h
  obtain ⟨a, b, c, r, rfl⟩ : ∃ a b c r, t = a :: b :: c :: r := by
    match t, h7 with
    | a :: b :: c :: r, _ => exact ⟨a, b, c, r, rfl⟩
    | [], h => simp at h
    | [a], h => simp at h
    | [a, b], h => simp at h
  have ha : a < 256 := hb a (by simp)
  have hbb : b < 256 := hb b (by simp)
  have hc : c < 256 := hb c (by simp)
  have hlen : lenOf (a :: b :: c :: r) = a + 256 * b := by simp [lenOf]
  have hhead : headF (readK (a :: b :: c :: r)) (readB (a :: b :: c :: r)) ++ readB (a :: b :: c :: r) = (a :: b :: c :: r).take (lenOf (a :: b :: c :: r) + 3) := by
    unfold headF
    rw [hBl, hK, hB, hlen]
    have e1 : (a + 256 * b) % 256 = a := by omega
    have e2 : (a + 256 * b) / 256 = b := by omega
    rw [e1, e2]
    simp
  refine ⟨?_, ?_, ?_, ?_, ?_⟩
  · unfold frameL
    rw [hhead, hs, hN, List.take_append_drop]
  · show readK _ ≠ 0
    rw [hK]; exact hk
  · show readK _ < 256
    rw [hK]; simpa using hc
  · show (readB _).length ≤ 4096
    rw [hBl]; exact h4
  · intro y hy
    rw [hB] at hy
    exact hb y (List.mem_of_mem_take (List.mem_of_mem_drop hy))
/-- Any bytes are frames, and a rest that is none. -/
theorem scan_split (l : List Nat) (hb : ∀ x ∈ l, x < 256) : ∀ (n a : Nat), l.length - a ≤ n → ∃ ks rest, l.drop a = joinF ks ++ rest ∧ (∀ x ∈ ks, okF x) ∧ (rest = [] ∨ readE rest ≠ 0) ∧ scanL l a = posF a ks
  | 0, a, h => ⟨[], [], by rw [List.drop_of_length_le (by omega)]; rfl, (fun x hx => by cases hx), .inl rfl, by rw [scanL_end (by omega)]; rfl⟩
  | n + 1, a, h => by
    by_cases hlt : a < l.length
    · by_cases hz : readE (l.drop a) = 0
      · have hs := step_le hlt hz
        have hp := readN_pos hz
        obtain ⟨ks, rest, h1, h2, h3, h4⟩ := scan_split l hb n (a + readN (l.drop a)) (by omega)
        obtain ⟨f1, f2⟩ := frame_of_read (fun x hx => hb x (List.mem_of_mem_drop hx)) hz
        refine ⟨(readK (l.drop a), readB (l.drop a)) :: ks, rest, ?_, ?_, h3, ?_⟩
        · rw [joinF_cons, List.append_assoc, ← h1]
          conv => lhs; rw [f1]
          rw [List.drop_drop]
        · intro x hx
          rcases List.mem_cons.1 hx with rfl | hx
          · exact f2
          · exact h2 x hx
        · rw [scanL_step hlt hz, h4, hp.2.2]
          rfl
      · exact ⟨[], l.drop a, rfl, (fun x hx => by cases hx), .inr hz, by rw [scanL_bad hz]; rfl⟩
    · exact ⟨[], [], by rw [List.drop_of_length_le (by omega)]; rfl, (fun x hx => by cases hx), .inl rfl, by rw [scanL_end (by omega)]; rfl⟩
theorem split0 (l : List Nat) (hb : ∀ x ∈ l, x < 256) : ∃ ks rest, l = joinF ks ++ rest ∧ (∀ x ∈ ks, okF x) ∧ (rest = [] ∨ readE rest ≠ 0) ∧ scanL l 0 = posF 0 ks := by
  have := scan_split l hb l.length 0 (by omega)
  simpa using this

/-- A region that is ready has a head, and no pieces to come. -/
def OrdS.Sane (s : OrdS) : Prop := s.ready = true → s.age ≠ 0 ∧ s.pieces = 0
theorem sane0 : o0.Sane := fun h => by cases h
theorem next_ready {s : OrdS} (h : s.Sane) (hr : s.ready = true) : s.next = 4 := by
  obtain ⟨h1, h2⟩ := h hr
  unfold OrdS.next
  rw [if_neg h1, if_neg (by omega), if_pos hr]
theorem next_kinds (s : OrdS) : (s.next = 1 ∧ s.age = 0) ∨ (s.next = 2 ∧ s.age ≠ 0 ∧ 0 < s.pieces) ∨ (s.next = 3 ∧ s.age ≠ 0 ∧ s.pieces = 0 ∧ s.ready = false) ∨ (s.next = 4 ∧ s.age ≠ 0 ∧ s.pieces = 0 ∧ s.ready = true) := by
  unfold OrdS.next
  by_cases h1 : s.age = 0
  · rw [if_pos h1]; exact .inl ⟨rfl, h1⟩
  · rw [if_neg h1]
    by_cases h2 : 0 < s.pieces
    · rw [if_pos h2]; exact .inr (.inl ⟨rfl, h1, h2⟩)
    · rw [if_neg h2]
      cases h3 : s.ready with
      | true => exact .inr (.inr (.inr ⟨rfl, h1, by omega, rfl⟩))
      | false => exact .inr (.inr (.inl ⟨rfl, h1, by omega, rfl⟩))
theorem take_sane {s : OrdS} (h : s.Sane) (k : Nat) (b : List Nat) : (takeS s k b).1.Sane := by
  unfold takeS
  by_cases hk : k ≠ s.next
  · rw [if_pos hk]; exact h
  · rw [if_neg hk]
    have hk : k = s.next := Decidable.not_not.1 hk
    rcases next_kinds s with ⟨h1, h2⟩ | ⟨h1, h2, h3⟩ | ⟨h1, h2, h3, h4⟩ | ⟨h1, h2, h3, h4⟩
    · rw [if_pos (by omega)]
      intro hr
      exact absurd h2 (h hr).1
    · rw [if_neg (by omega), if_pos (by omega)]
      intro hr
      have := (h hr).2
      omega
    · rw [if_neg (by omega), if_neg (by omega), if_pos (by omega)]
      exact fun _ => ⟨h2, h3⟩
    · rw [if_neg (by omega), if_neg (by omega), if_neg (by omega)]
      exact h
theorem take_fail {s : OrdS} (h : s.Sane) {k : Nat} {b : List Nat} (h0 : (takeS s k b).2 ≠ true) (hr : (takeS s k b).1.ready = true) : (takeS s k b).1 = s := by
  have hs := take_sane h k b
  revert h0 hr
  unfold takeS
  by_cases hk : k ≠ s.next
  · rw [if_pos hk]; intros; rfl
  · rw [if_neg hk]
    have hk : k = s.next := Decidable.not_not.1 hk
    rcases next_kinds s with ⟨h1, h2⟩ | ⟨h1, h2, h3⟩ | ⟨h1, h2, h3, h4⟩ | ⟨h1, h2, h3, h4⟩
    · rw [if_pos (by omega)]
      intro _ hr
      exact absurd h2 (h hr).1
    · rw [if_neg (by omega), if_pos (by omega)]
      intro _ hr
      have := (h hr).2
      omega
    · rw [if_neg (by omega), if_neg (by omega), if_pos (by omega)]
      intro h0 hr
      exact absurd hr h0
    · rw [if_neg (by omega), if_neg (by omega), if_neg (by omega)]
      intro h0
      exact absurd rfl h0
theorem endK_sane : ∀ (ks : List (Nat × List Nat)) (s : OrdS), s.Sane → (endK s ks).Sane
  | [], s, h => h
  | x :: xs, s, h => by
    unfold endK
    split
    · exact endK_sane xs _ (take_sane h _ _)
    · exact take_sane h _ _
/-- What the order took, again. -/
theorem endK_take : ∀ (ks : List (Nat × List Nat)) (s : OrdS), s.Sane → (endK s ks).ready = true → endK s (ks.take (takeK s ks)) = endK s ks ∧ takeK s (ks.take (takeK s ks)) = takeK s ks
  | [], s, _, _ => ⟨rfl, rfl⟩
  | x :: xs, s, h, hr => by
    by_cases ht : (takeS s x.1 x.2).2 = true
    · have e1 : endK s (x :: xs) = endK (takeS s x.1 x.2).1 xs := if_pos ht
      have e2 : takeK s (x :: xs) = takeK (takeS s x.1 x.2).1 xs + 1 := if_pos ht
      rw [e1] at hr ⊢
      obtain ⟨i1, i2⟩ := endK_take xs _ (take_sane h _ _) hr
      rw [e2, List.take_succ_cons]
      refine ⟨?_, ?_⟩
      · exact (if_pos ht).trans i1
      · exact (if_pos ht).trans (by rw [i2])
    · have e1 : endK s (x :: xs) = (takeS s x.1 x.2).1 := if_neg ht
      have e2 : takeK s (x :: xs) = 0 := if_neg ht
      rw [e1] at hr ⊢
      rw [e2, take_fail h ht hr]
      exact ⟨rfl, rfl⟩
theorem takeK_append : ∀ (ks z : List (Nat × List Nat)) (s : OrdS), takeK s ks = ks.length → takeK s (ks ++ z) = ks.length + takeK (endK s ks) z ∧ endK s (ks ++ z) = endK (endK s ks) z
  | [], z, s, _ => ⟨by simp [endK], rfl⟩
  | x :: xs, z, s, h => by
    by_cases ht : (takeS s x.1 x.2).2 = true
    · have e2 : takeK s (x :: xs) = takeK (takeS s x.1 x.2).1 xs + 1 := if_pos ht
      rw [e2, List.length_cons] at h
      obtain ⟨i1, i2⟩ := takeK_append xs z (takeS s x.1 x.2).1 (by omega)
      have e1 : endK s (x :: xs) = endK (takeS s x.1 x.2).1 xs := if_pos ht
      rw [e1]
      refine ⟨?_, ?_⟩
      · show takeK s (x :: (xs ++ z)) = _
        refine (if_pos ht).trans ?_
        rw [i1, List.length_cons]; omega
      · show endK s (x :: (xs ++ z)) = _
        exact (if_pos ht).trans i2
    · have e2 : takeK s (x :: xs) = 0 := if_neg ht
      rw [e2] at h
      simp at h
/-- Records behind what is ready. -/
theorem takeK_recs {s : OrdS} (h : s.Sane) (hr : s.ready = true) : ∀ (rs : List (List Nat)), takeK s (rs.map fun r => (4, r)) = rs.length ∧ endK s (rs.map fun r => (4, r)) = s
  | [] => ⟨rfl, rfl⟩
  | r :: rs => by
    have ht : takeS s 4 r = (s, true) := by
      have hn := next_ready h hr
      unfold takeS
      rw [if_neg (by omega), if_neg (by omega), if_neg (by omega), if_neg (by omega)]
    obtain ⟨i1, i2⟩ := takeK_recs h hr rs
    have ht' : (takeS s ((4, r) : Nat × List Nat).1 ((4, r) : Nat × List Nat).2).2 = true := by show (takeS s 4 r).2 = true; rw [ht]
    refine ⟨?_, ?_⟩
    · refine (if_pos ht').trans ?_
      show takeK (takeS s 4 r).1 (rs.map fun r => (4, r)) + 1 = _
      rw [ht, i1]; rfl
    · refine (if_pos ht').trans ?_
      show endK (takeS s 4 r).1 (rs.map fun r => (4, r)) = _
      rw [ht, i2]

/-- What a region has, by its frames. -/
theorem kept_join (ks : List (Nat × List Nat)) (rest : List Nat) (hk : ∀ x ∈ ks, okF x) (hr : rest = [] ∨ readE rest ≠ 0) :
    keptS (joinF ks ++ rest) = if (endK o0 ks).ready = true then ((endK o0 ks).age, cntK 4 (ks.take (takeK o0 ks)), (joinF (ks.take (takeK o0 ks))).length) else (0, 0, 0) := by
  unfold keptS
  rw [(scan_join0 ks rest hr hk).1, goS_pos, Nat.zero_add, Nat.zero_add]
/-- What counts, and what is behind its end cut away. -/
theorem kept_cut (l : List Nat) (hb : ∀ x ∈ l, x < 256) (h : (keptS l).1 ≠ 0) :
    (keptS l).2.2 ≤ l.length ∧ keptS (l.take (keptS l).2.2) = keptS l ∧ ∃ ks, l.take (keptS l).2.2 = joinF ks ∧ (∀ x ∈ ks, okF x) ∧ (endK o0 ks).ready = true ∧ takeK o0 ks = ks.length ∧ keptS l = ((endK o0 ks).age, cntK 4 ks, (joinF ks).length) := by
  obtain ⟨ks, rest, rfl, h2, h3, _⟩ := split0 l hb
  have hkj := kept_join ks rest h2 h3
  by_cases hr : (endK o0 ks).ready = true
  · rw [if_pos hr] at hkj
    obtain ⟨e1, e2⟩ := endK_take ks o0 sane0 hr
    have hle := takeK_le ks o0
    have hsp : joinF ks = joinF (ks.take (takeK o0 ks)) ++ joinF (ks.drop (takeK o0 ks)) := by rw [← joinF_append, List.take_append_drop]
    have hok : ∀ x ∈ ks.take (takeK o0 ks), okF x := fun x hx => h2 x (List.mem_of_mem_take hx)
    have htk : (joinF ks ++ rest).take (joinF (ks.take (takeK o0 ks))).length = joinF (ks.take (takeK o0 ks)) := by
      rw [hsp, List.append_assoc, List.take_left']; rfl
    have hk2 := kept_join (ks.take (takeK o0 ks)) [] hok (.inl rfl)
    rw [List.append_nil, e1, if_pos hr, e2, List.take_take, Nat.min_self] at hk2
    rw [hkj]
    refine ⟨?_, ?_, ks.take (takeK o0 ks), htk, hok, by rw [e1]; exact hr, by rw [e2, List.length_take]; omega, by rw [e1]⟩
    · show (joinF _).length ≤ _
      rw [hsp, List.length_append, List.length_append]; omega
    · show keptS ((joinF ks ++ rest).take (joinF (ks.take (takeK o0 ks))).length) = _
      rw [htk, hk2]
  · rw [if_neg hr] at hkj
    rw [hkj] at h
    exact absurd rfl h
end Go.Proofs.YtocmfdahnekboaaDoor

/- Regions as rows of frames: what a region begins with; the bodies of a kind. -/
namespace Go.Proofs.YtocmfdahnekboaaDoor
open Go.RowKit SumM
set_option linter.unusedVariables false

theorem head_read {age n : Nat} (h0 : 0 < age) (ha : age < 18446744073709551616) (hn : n ≤ 1099511627776) : headA (headB age n) = age ∧ headP (headB age n) = piecesN n ∧ headOk (headB age n) = true := by
  have hp : piecesN n < 18446744073709551616 := by have := piecesN_le n; omega
  have e1 : headA (headB age n) = age := by unfold headA headB; rw [whole_uv ha]
  have e2 : uintR (headB age n) 0 = (uv (piecesN n), 0) := by unfold headB; rw [uintR_uv ha]
  have e3 : headX (headB age n) = ([], 0) := by
    unfold headX
    rw [e2]
    have := uintR_uv hp [] 0
    rw [List.append_nil] at this
    exact this
  refine ⟨e1, ?_, ?_⟩
  · unfold headP
    rw [e2]
    have := whole_uv hp []
    rw [List.append_nil] at this
    rw [this]
  · unfold headOk
    rw [e1, e3]
    simp [h0]
theorem pieces_le' (n : Nat) : n ≤ 4096 * piecesN n := by unfold piecesN; split <;> omega
theorem take_chunks (l : List Nat) (age : Nat) (h0 : age ≠ 0) (z : List (Nat × List Nat)) : ∀ (m i : Nat), i + m = piecesN l.length →
    takeK ⟨age, m, false⟩ ((List.range' i m).map (fun j => (2, chunkAt l j)) ++ z) = m + takeK ⟨age, 0, false⟩ z ∧ endK ⟨age, m, false⟩ ((List.range' i m).map (fun j => (2, chunkAt l j)) ++ z) = endK ⟨age, 0, false⟩ z
  | 0, i, _ => by simp
  | m + 1, i, h => by
    have hi : 4096 * i < l.length := (pieces_lt i _).1 (by omega)
    have hlen := chunkAt_len l i
    have hok : takeS ⟨age, m + 1, false⟩ 2 (chunkAt l i) = (⟨age, m, false⟩, true) := by
      unfold takeS
      rw [if_neg (by unfold OrdS.next; rw [if_neg h0, if_pos (by show 0 < m + 1; omega)]; decide), if_neg (by decide), if_pos rfl]
      have : (decide ((chunkAt l i).length = 4096) || (decide (m + 1 - 1 = 0) && decide (0 < (chunkAt l i).length))) = true := by
        rcases Nat.eq_zero_or_pos m with rfl | hm
        · rw [decide_eq_true (p := 0 + 1 - 1 = 0) rfl, decide_eq_true (p := 0 < (chunkAt l i).length) (by omega)]; simp
        · have := (pieces_lt (i + 1) l.length).1 (by omega)
          rw [decide_eq_true (p := (chunkAt l i).length = 4096) (by omega)]; simp
      rw [this]; rfl
    obtain ⟨i1, i2⟩ := take_chunks l age h0 z m (i + 1) (by omega)
    rw [List.range'_succ, List.map_cons, List.cons_append]
    have ht : (takeS ⟨age, m + 1, false⟩ ((2, chunkAt l i) : Nat × List Nat).1 ((2, chunkAt l i) : Nat × List Nat).2).2 = true := by show (takeS _ 2 (chunkAt l i)).2 = true; rw [hok]
    refine ⟨?_, ?_⟩
    · refine (if_pos ht).trans ?_
      show takeK (takeS _ 2 (chunkAt l i)).1 _ + 1 = _
      rw [hok]
      show takeK ⟨age, m, false⟩ _ + 1 = _
      rw [i1]; omega
    · refine (if_pos ht).trans ?_
      show endK (takeS _ 2 (chunkAt l i)).1 _ = _
      rw [hok]
      exact i2
theorem begin_eq (age : Nat) (snap : List Nat) : beginFs age snap = (1, headB age snap.length) :: ((List.range' 0 (piecesN snap.length)).map (fun j => (2, chunkAt snap j)) ++ [(3, [])]) := by
  unfold beginFs chunksL
  rw [List.map_map, List.range_eq_range']
  rfl
/-- What a region begins with counts. -/
theorem begin_take {age : Nat} {snap : List Nat} (h0 : 0 < age) (ha : age < 18446744073709551616) (hn : snap.length ≤ 1099511627776) :
    takeK o0 (beginFs age snap) = (beginFs age snap).length ∧ endK o0 (beginFs age snap) = ⟨age, 0, true⟩ := by
  obtain ⟨e1, e2, e3⟩ := head_read h0 ha hn
  have hh : takeS o0 1 (headB age snap.length) = (⟨age, piecesN snap.length, false⟩, true) := by
    unfold takeS
    rw [if_neg (by decide), if_pos rfl, e1, e2, e3]
  have h3 : takeS ⟨age, 0, false⟩ 3 [] = (⟨age, 0, true⟩, true) := by
    unfold takeS
    rw [if_neg (by unfold OrdS.next; rw [if_neg (by show ¬ age = 0; omega), if_neg (by show ¬ 0 < 0; omega), if_neg Bool.false_ne_true]; decide), if_neg (by decide), if_neg (by decide), if_pos rfl]
    rfl
  obtain ⟨i1, i2⟩ := take_chunks snap age (by omega) [(3, [])] (piecesN snap.length) 0 (by omega)
  have k3 : takeK ⟨age, 0, false⟩ [(3, [])] = 1 := by
    show (if (takeS ⟨age, 0, false⟩ 3 []).2 = true then _ else _) = _
    rw [h3]; rfl
  have g3 : endK ⟨age, 0, false⟩ [(3, [])] = ⟨age, 0, true⟩ := by
    show (if (takeS ⟨age, 0, false⟩ 3 []).2 = true then _ else _) = _
    rw [h3]; rfl
  rw [k3] at i1
  rw [g3] at i2
  rw [begin_eq]
  have ht : (takeS o0 ((1, headB age snap.length) : Nat × List Nat).1 ((1, headB age snap.length) : Nat × List Nat).2).2 = true := by show (takeS _ 1 _).2 = true; rw [hh]
  refine ⟨?_, ?_⟩
  · refine (if_pos ht).trans ?_
    show takeK (takeS o0 1 _).1 _ + 1 = _
    rw [hh]
    show takeK ⟨age, piecesN snap.length, false⟩ _ + 1 = _
    rw [i1]
    simp
  · refine (if_pos ht).trans ?_
    show endK (takeS o0 1 _).1 _ = _
    rw [hh]
    exact i2
theorem chunks_flat (l : List Nat) : ∀ (m i : Nat), i + m = piecesN l.length → ((List.range' i m).map (chunkAt l)).flatten = l.drop (4096 * i)
  | 0, i, h => by
    rw [List.drop_of_length_le (by have := pieces_le' l.length; rw [← h] at this; simpa using this)]; rfl
  | m + 1, i, h => by
    rw [List.range'_succ, List.map_cons, List.flatten_cons, chunks_flat l m (i + 1) (by omega)]
    unfold chunkAt
    rw [show 4096 * (i + 1) = 4096 * i + 4096 from by omega, ← List.drop_drop, List.take_append_drop]
/-- The runs, one behind the other. -/
theorem chunksL_flat (l : List Nat) : (chunksL l).flatten = l := by
  unfold chunksL
  rw [List.range_eq_range', chunks_flat l _ 0 (by omega)]
  rfl
theorem joinF_length : ∀ (ks : List (Nat × List Nat)), (joinF ks).length = (ks.map Prod.snd).flatten.length + 7 * ks.length
  | [] => rfl
  | x :: ks => by
    rw [joinF_cons, List.length_append, frame_len, joinF_length ks, List.map_cons, List.flatten_cons, List.length_append, List.length_cons]
    omega
theorem begin_length (age : Nat) (snap : List Nat) : (joinF (beginFs age snap)).length = heavyN age snap.length := by
  rw [joinF_length]
  have e1 : ((beginFs age snap).map Prod.snd).flatten = headB age snap.length ++ snap := by
    have e2 : (beginFs age snap).map Prod.snd = headB age snap.length :: (chunksL snap ++ [[]]) := by
      unfold beginFs
      simp [List.map_map, Function.comp_def]
    rw [e2, List.flatten_cons, List.flatten_append, chunksL_flat]
    simp
  have e3 : (beginFs age snap).length = piecesN snap.length + 2 := by
    unfold beginFs chunksL
    simp
  rw [e1, e3, List.length_append]
  unfold heavyN
  omega
theorem begin_ok (age : Nat) (ha : age < 18446744073709551616) (snap : List Nat) (hs : ∀ x ∈ snap, x < 256) (hl : snap.length ≤ 1048576) : ∀ f ∈ beginFs age snap, okF f := fun f hf => by
  obtain ⟨h1, h2, h3, h4⟩ := beginFs_ok age ha snap hs hl f hf
  exact ⟨by omega, by omega, h3, h4⟩

/-- The bodies of a kind, as far as kinds don't rise above it. -/
def bodF (k : Nat) : List (Nat × Nat × List Nat) → List (List Nat)
  | [] => []
  | x :: xs => if k < x.2.1 then [] else if x.2.1 = k then x.2.2 :: bodF k xs else bodF k xs
/-- The bodies of those that were gone over. -/
def bodP (k : Nat) (ys : List (Nat × Nat × List Nat)) : List (List Nat) := (ys.filter fun x => x.2.1 == k).map fun x => x.2.2
theorem bodF_pre (k : Nat) : ∀ (pre z : List (Nat × Nat × List Nat)), (∀ x ∈ pre, x.2.1 ≤ k) → bodF k (pre ++ z) = bodP k pre ++ bodF k z
  | [], z, _ => rfl
  | x :: pre, z, h => by
    have h1 := h x (by simp)
    have ih := bodF_pre k pre z (fun y hy => h y (by simp [hy]))
    show (if k < x.2.1 then [] else if x.2.1 = k then x.2.2 :: bodF k (pre ++ z) else bodF k (pre ++ z)) = _
    rw [if_neg (by omega), ih]
    unfold bodP
    rw [List.filter_cons]
    by_cases hk : x.2.1 = k
    · rw [if_pos hk, if_pos (by simpa using hk)]; rfl
    · rw [if_neg hk, if_neg (by simpa using hk)]
theorem bodP_snoc (k : Nat) (pre : List (Nat × Nat × List Nat)) (x : Nat × Nat × List Nat) : bodP k (pre ++ [x]) = if x.2.1 = k then bodP k pre ++ [x.2.2] else bodP k pre := by
  unfold bodP
  rw [List.filter_append, List.map_append]
  by_cases hk : x.2.1 = k
  · rw [if_pos hk, List.filter_cons, if_pos (by simpa using hk)]; rfl
  · rw [if_neg hk, List.filter_cons, if_neg (by simpa using hk)]; simp
theorem bodF_none (k : Nat) : ∀ (ks : List (Nat × List Nat)) (a : Nat), (∀ y ∈ ks, k < y.1) → bodF k (posF a ks) = []
  | [], a, _ => rfl
  | y :: ys, a, h => by
    show (if k < y.1 then _ else _) = _
    rw [if_pos (h y (by simp))]
theorem bodF_pos (k : Nat) : ∀ (ks : List (Nat × List Nat)) (a : Nat), ks.Pairwise (fun x y => x.1 ≤ y.1) → bodF k (posF a ks) = bodK k ks
  | [], a, _ => rfl
  | x :: ks, a, h => by
    rw [List.pairwise_cons] at h
    have ih := bodF_pos k ks (a + (x.2.length + 7)) h.2
    show (if k < x.1 then _ else if x.1 = k then x.2 :: bodF k (posF (a + (x.2.length + 7)) ks) else bodF k (posF (a + (x.2.length + 7)) ks)) = _
    unfold bodK
    rw [List.filter_cons]
    by_cases h1 : k < x.1
    · rw [if_pos h1, if_neg (by simp; omega), List.filter_eq_nil_iff.2 (fun y hy => by have := h.1 y hy; simp; omega)]; rfl
    · rw [if_neg h1]
      by_cases h2 : x.1 = k
      · rw [if_pos h2, if_pos (by simpa using h2), List.map_cons, ih]; rfl
      · rw [if_neg h2, if_neg (by simpa using h2), ih]; rfl
theorem next_1 (s : OrdS) : 1 ≤ s.next := by rcases next_kinds s with ⟨g, _⟩ | ⟨g, _⟩ | ⟨g, _⟩ | ⟨g, _⟩ <;> omega
theorem next_2 {a p : Nat} {r : Bool} (h : a ≠ 0) : 2 ≤ OrdS.next ⟨a, p, r⟩ := by
  rcases next_kinds ⟨a, p, r⟩ with ⟨g, g1⟩ | ⟨g, _⟩ | ⟨g, _⟩ | ⟨g, _⟩
  · exact absurd g1 h
  · omega
  · omega
  · omega
theorem next_3 {a p : Nat} {r : Bool} (h : a ≠ 0) (hp : p = 0) : 3 ≤ OrdS.next ⟨a, p, r⟩ := by
  rcases next_kinds ⟨a, p, r⟩ with ⟨g, g1⟩ | ⟨g, _, g2⟩ | ⟨g, _⟩ | ⟨g, _⟩
  · exact absurd g1 h
  · have : 0 < p := g2
    omega
  · omega
  · omega
/-- What is taken rises in its kinds. -/
theorem take_rises : ∀ (ks : List (Nat × List Nat)) (s : OrdS), s.Sane → takeK s ks = ks.length → ks.Pairwise (fun x y => x.1 ≤ y.1) ∧ ∀ x ∈ ks, s.next ≤ x.1
  | [], s, _, _ => ⟨List.Pairwise.nil, (fun x hx => by cases hx)⟩
  | x :: xs, s, h, hk => by
    by_cases ht : (takeS s x.1 x.2).2 = true
    · have e2 : takeK s (x :: xs) = takeK (takeS s x.1 x.2).1 xs + 1 := if_pos ht
      rw [e2, List.length_cons] at hk
      obtain ⟨i1, i2⟩ := take_rises xs _ (take_sane h x.1 x.2) (by omega)
      have hx : x.1 = s.next := by
        apply Decidable.byContradiction
        intro hne
        unfold takeS at ht
        rw [if_pos hne] at ht
        cases ht
      have hnx : s.next ≤ (takeS s x.1 x.2).1.next := by
        revert ht
        unfold takeS
        rw [if_neg (by omega)]
        rcases next_kinds s with ⟨h1, h2⟩ | ⟨h1, h2, h3⟩ | ⟨h1, h2, h3, h4⟩ | ⟨h1, h2, h3, h4⟩
        · intro _
          rw [h1]
          exact next_1 _
        · rw [if_neg (by omega), if_pos (by omega)]
          intro _
          rw [h1]
          exact next_2 h2
        · rw [if_neg (by omega), if_neg (by omega), if_pos (by omega)]
          intro _
          rw [h1]
          exact next_3 h2 h3
        · rw [if_neg (by omega), if_neg (by omega), if_neg (by omega)]
          intro _
          exact Nat.le_refl _
      refine ⟨List.pairwise_cons.2 ⟨fun y hy => by have := i2 y hy; omega, i1⟩, fun y hy => ?_⟩
      rcases List.mem_cons.1 hy with rfl | hy
      · omega
      · have := i2 y hy; omega
    · have e2 : takeK s (x :: xs) = 0 := if_neg ht
      rw [e2] at hk
      simp at hk
/-- What a region with a snapshot and records has. -/
def regL (age : Nat) (snap : List Nat) (recs : List (List Nat)) : List (Nat × List Nat) := beginFs age snap ++ recs.map fun r => (4, r)
theorem reg_take {age : Nat} {snap : List Nat} (recs : List (List Nat)) (h0 : 0 < age) (ha : age < 18446744073709551616) (hn : snap.length ≤ 1099511627776) :
    takeK o0 (regL age snap recs) = (regL age snap recs).length ∧ endK o0 (regL age snap recs) = ⟨age, 0, true⟩ := by
  obtain ⟨e1, e2⟩ := begin_take h0 ha hn
  obtain ⟨f1, f2⟩ := takeK_append (beginFs age snap) (recs.map fun r => (4, r)) o0 e1
  rw [e2] at f1 f2
  obtain ⟨g1, g2⟩ := takeK_recs (s := ⟨age, 0, true⟩) (fun _ => ⟨by show age ≠ 0; omega, rfl⟩) rfl recs
  refine ⟨?_, f2.trans g2⟩
  unfold regL
  rw [f1, g1, List.length_append, List.length_map]
theorem bodK_append (k : Nat) (a b : List (Nat × List Nat)) : bodK k (a ++ b) = bodK k a ++ bodK k b := by unfold bodK; rw [List.filter_append, List.map_append]
theorem bodK_const (k j : Nat) (l : List (List Nat)) : bodK k (l.map fun r => (j, r)) = if j = k then l else [] := by
  unfold bodK
  by_cases h : j = k
  · rw [if_pos h, List.filter_eq_self.2 (fun x hx => by obtain ⟨r, _, rfl⟩ := List.mem_map.1 hx; simpa using h), List.map_map]
    simp [Function.comp_def]
  · rw [if_neg h, List.filter_eq_nil_iff.2 (fun x hx => by obtain ⟨r, _, rfl⟩ := List.mem_map.1 hx; simpa using h)]; rfl
theorem reg_bods (age : Nat) (snap : List Nat) (recs : List (List Nat)) : bodK 2 (regL age snap recs) = chunksL snap ∧ bodK 4 (regL age snap recs) = recs ∧ cntK 4 (regL age snap recs) = recs.length := by
  have h : ∀ k, bodK k (regL age snap recs) = bodK k [(1, headB age snap.length)] ++ ((if 2 = k then chunksL snap else []) ++ bodK k [(3, [])]) ++ (if 4 = k then recs else []) := fun k => by
    unfold regL beginFs
    rw [show ((1, headB age snap.length) :: ((chunksL snap).map (fun c => (2, c)) ++ [(3, [])]) : List (Nat × List Nat)) = [(1, headB age snap.length)] ++ ((chunksL snap).map (fun c => (2, c)) ++ [(3, [])]) from rfl, bodK_append, bodK_append, bodK_append, bodK_const, bodK_const]
  have h4 : bodK 4 (regL age snap recs) = recs := by rw [h 4]; simp [bodK]
  refine ⟨by rw [h 2]; simp [bodK], h4, ?_⟩
  have : cntK 4 (regL age snap recs) = (bodK 4 (regL age snap recs)).length := by unfold cntK bodK; rw [List.length_map]
  rw [this, h4]
end Go.Proofs.YtocmfdahnekboaaDoor
