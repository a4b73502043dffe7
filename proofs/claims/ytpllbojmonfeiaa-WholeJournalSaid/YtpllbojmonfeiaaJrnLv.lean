/- Regions that are cut at any byte; devices and journals where the power may go. -/
import Derived.Test.YtpllbojmonfeiaaJrnPw
namespace Go.Proofs.Ytpllbojmonfeiaa
open Go.RowKit SumM
set_option linter.unusedVariables false

theorem take_rdy {s : OrdS} (h : s.Sane) (hr : s.ready = true) (k : Nat) (b : List Nat) : (takeS s k b).1 = s := by
  have hn := next_ready h hr
  unfold takeS
  by_cases hk : k ≠ s.next
  · rw [if_pos hk]
  · rw [if_neg hk, if_neg (by omega), if_neg (by omega), if_neg (by omega)]
theorem endK_ready : ∀ (z : List (Nat × List Nat)) (s : OrdS), s.Sane → s.ready = true → endK s z = s
  | [], s, _, _ => rfl
  | x :: xs, s, h, hr => by
    unfold endK
    rw [take_rdy h hr]
    split
    · exact endK_ready xs s h hr
    · rfl
theorem endK_mono : ∀ (ks : List (Nat × List Nat)) (s : OrdS) (j : Nat), s.Sane → (endK s (ks.take j)).ready = true → endK s ks = endK s (ks.take j)
  | [], s, j, _, _ => by rw [List.take_nil]
  | x :: xs, s, 0, h, hr => by
    rw [List.take_zero] at hr ⊢
    exact endK_ready _ s h hr
  | x :: xs, s, j + 1, h, hr => by
    rw [List.take_succ_cons] at hr ⊢
    by_cases ht : (takeS s x.1 x.2).2 = true
    · have e1 : endK s (x :: xs) = endK (takeS s x.1 x.2).1 xs := if_pos ht
      have e2 : endK s (x :: xs.take j) = endK (takeS s x.1 x.2).1 (xs.take j) := if_pos ht
      rw [e2] at hr
      rw [e1, e2]
      exact endK_mono xs _ j (take_sane h _ _) hr
    · have e1 : endK s (x :: xs) = (takeS s x.1 x.2).1 := if_neg ht
      have e2 : endK s (x :: xs.take j) = (takeS s x.1 x.2).1 := if_neg ht
      rw [e1, e2]
theorem takeK_take : ∀ (ks : List (Nat × List Nat)) (s : OrdS) (j : Nat), s.Sane → (endK s ks).ready = true → takeK s ks ≤ j → takeK s (ks.take j) = takeK s ks ∧ endK s (ks.take j) = endK s ks
  | [], s, j, _, _, _ => by rw [List.take_nil]; exact ⟨rfl, rfl⟩
  | x :: xs, s, 0, h, hr, hj => by
    have ht : ¬ (takeS s x.1 x.2).2 = true := fun ht => by
      have e2 : takeK s (x :: xs) = takeK (takeS s x.1 x.2).1 xs + 1 := if_pos ht
      omega
    have e1 : endK s (x :: xs) = (takeS s x.1 x.2).1 := if_neg ht
    have e2 : takeK s (x :: xs) = 0 := if_neg ht
    rw [e1] at hr ⊢
    rw [e2, List.take_zero]
    exact ⟨rfl, (take_fail h ht hr).symm⟩
  | x :: xs, s, j + 1, h, hr, hj => by
    rw [List.take_succ_cons]
    by_cases ht : (takeS s x.1 x.2).2 = true
    · have e1 : endK s (x :: xs) = endK (takeS s x.1 x.2).1 xs := if_pos ht
      have e2 : takeK s (x :: xs) = takeK (takeS s x.1 x.2).1 xs + 1 := if_pos ht
      have f1 : endK s (x :: xs.take j) = endK (takeS s x.1 x.2).1 (xs.take j) := if_pos ht
      have f2 : takeK s (x :: xs.take j) = takeK (takeS s x.1 x.2).1 (xs.take j) + 1 := if_pos ht
      rw [e1] at hr
      rw [e2] at hj
      obtain ⟨i1, i2⟩ := takeK_take xs _ j (take_sane h _ _) hr (by omega)
      rw [e1, e2, f1, f2, i1, i2]
      exact ⟨rfl, rfl⟩
    · have e1 : endK s (x :: xs) = (takeS s x.1 x.2).1 := if_neg ht
      have e2 : takeK s (x :: xs) = 0 := if_neg ht
      have f1 : endK s (x :: xs.take j) = (takeS s x.1 x.2).1 := if_neg ht
      have f2 : takeK s (x :: xs.take j) = 0 := if_neg ht
      rw [e1, e2, f1, f2]
      exact ⟨rfl, rfl⟩
theorem takeK_full : ∀ (ks : List (Nat × List Nat)) (s : OrdS) (j : Nat), takeK s ks = ks.length → takeK s (ks.take j) = (ks.take j).length
  | [], s, j, _ => by rw [List.take_nil]; rfl
  | x :: xs, s, 0, _ => by rw [List.take_zero]; rfl
  | x :: xs, s, j + 1, h => by
    rw [List.take_succ_cons]
    by_cases ht : (takeS s x.1 x.2).2 = true
    · have e2 : takeK s (x :: xs) = takeK (takeS s x.1 x.2).1 xs + 1 := if_pos ht
      have f2 : takeK s (x :: xs.take j) = takeK (takeS s x.1 x.2).1 (xs.take j) + 1 := if_pos ht
      rw [e2, List.length_cons] at h
      rw [f2, takeK_full xs _ j (by omega), List.length_cons]
    · have e2 : takeK s (x :: xs) = 0 := if_neg ht
      rw [e2, List.length_cons] at h
      omega
/-- What is no frame is none when it is cut. -/
theorem cut_bad {rest : List Nat} (hb : ∀ x ∈ rest, x < 256) (hr : rest = [] ∨ readE rest ≠ 0) (m : Nat) : rest.take m = [] ∨ readE (rest.take m) ≠ 0 := by
  rcases hr with rfl | hr
  · left; simp
  · right
    intro h0
    obtain ⟨e, hok⟩ := frame_of_read (fun x hx => hb x (List.mem_of_mem_take hx)) h0
    obtain ⟨h1, h2, h3, h4⟩ := hok
    have h5 := (read_frame (readK (rest.take m)) (readB (rest.take m)) ((rest.take m).drop (readN (rest.take m)) ++ rest.drop m) h1 h3).1
    rw [← List.append_assoc, ← e, List.take_append_drop] at h5
    exact hr h5
/-- Frames, and what is behind them, cut at any byte. -/
theorem pre_cut (rest : List Nat) (hrb : ∀ x ∈ rest, x < 256) (hr : rest = [] ∨ readE rest ≠ 0) : ∀ (ks : List (Nat × List Nat)) (m : Nat), (∀ x ∈ ks, okF x) →
    ∃ j rest', j ≤ ks.length ∧ (joinF ks ++ rest).take m = joinF (ks.take j) ++ rest' ∧ (rest' = [] ∨ readE rest' ≠ 0) ∧ (∀ t, t ≤ ks.length → (joinF (ks.take t)).length ≤ m → t ≤ j) ∧ (m < (joinF ks).length → j < ks.length)
  | [], m, _ => ⟨0, rest.take m, Nat.le_refl _, by simp [joinF], cut_bad hrb hr m, fun t ht _ => ht, fun h => by simp [joinF] at h⟩
  | x :: ks, m, h => by
    obtain ⟨h1, h2, h3, h4⟩ := h x (by simp)
    have hl := frame_len x.1 x.2
    by_cases hm : x.2.length + 7 ≤ m
    · obtain ⟨j, rest', i1, i2, i3, i4, i5⟩ := pre_cut rest hrb hr ks (m - (x.2.length + 7)) (fun y hy => h y (by simp [hy]))
      refine ⟨j + 1, rest', by rw [List.length_cons]; omega, ?_, i3, ?_, ?_⟩
      · rw [joinF_cons, List.append_assoc, List.take_append, hl, List.take_of_length_le (l := frameL x.1 x.2) (by omega), i2, List.take_succ_cons, joinF_cons, List.append_assoc]
      · intro t ht hlen
        cases t with
        | zero => omega
        | succ t =>
          rw [List.take_succ_cons, joinF_cons, List.length_append, hl] at hlen
          have := i4 t (by rw [List.length_cons] at ht; omega) (by omega)
          omega
      · intro hlt
        rw [joinF_cons, List.length_append, hl] at hlt
        have := i5 (by omega)
        rw [List.length_cons]; omega
    · refine ⟨0, (frameL x.1 x.2).take m, Nat.zero_le _, ?_, .inr (by rw [read_cut _ _ _ h3 (by omega)]; decide), ?_, fun _ => by simp⟩
      · rw [joinF_cons, List.append_assoc, List.take_append_of_le_length (by rw [hl]; omega)]
        simp [joinF]
      · intro t ht hlen
        cases t with
        | zero => exact Nat.le_refl _
        | succ t => rw [List.take_succ_cons, joinF_cons, List.length_append, hl] at hlen; omega
/-- A region that is cut has its age, or none. -/
theorem age_cut (l : List Nat) (hb : ∀ x ∈ l, x < 256) (m : Nat) : (keptS (l.take m)).1 = 0 ∨ (keptS (l.take m)).1 = (keptS l).1 := by
  obtain ⟨ks, rest, rfl, h2, h3, _⟩ := split0 l hb
  obtain ⟨j, rest', _, e, g3, _⟩ := pre_cut rest (fun x hx => hb x (by simp [hx])) h3 ks m h2
  rw [e, kept_join (ks.take j) rest' (fun x hx => h2 x (List.mem_of_mem_take hx)) g3, kept_join ks rest h2 h3]
  by_cases hr : (endK o0 (ks.take j)).ready = true
  · right
    have h := endK_mono ks o0 j sane0 hr
    rw [if_pos hr, h, if_pos hr]
  · left
    rw [if_neg hr]
/-- What counts stays, as long as it is cut behind its end. -/
theorem kept_stay {l : List Nat} (hb : ∀ x ∈ l, x < 256) {a c f : Nat} (h : keptS l = (a, c, f)) (ha : a ≠ 0) {m : Nat} (hm : f ≤ m) : keptS (l.take m) = (a, c, f) := by
  obtain ⟨ks, rest, rfl, h2, h3, _⟩ := split0 l hb
  obtain ⟨j, rest', _, e, g3, g4, _⟩ := pre_cut rest (fun x hx => hb x (by simp [hx])) h3 ks m h2
  have hk := kept_join ks rest h2 h3
  rw [h] at hk
  by_cases hr : (endK o0 ks).ready = true
  · rw [if_pos hr] at hk
    simp only [Prod.mk.injEq] at hk
    obtain ⟨k1, k2, k3⟩ := hk
    have hj := g4 (takeK o0 ks) (takeK_le _ _) (by omega)
    obtain ⟨t1, t2⟩ := takeK_take ks o0 j sane0 hr hj
    rw [e, kept_join _ rest' (fun x hx => h2 x (List.mem_of_mem_take hx)) g3, t2, if_pos hr, t1, List.take_take, Nat.min_eq_left hj, ← k1, ← k2, ← k3]
  · rw [if_neg hr] at hk
    simp only [Prod.mk.injEq] at hk
    exact absurd hk.1 ha
/-- A beginning of a record's frame behind a region's end. -/
theorem kept_more {l : List Nat} (hb : ∀ x ∈ l, x < 256) {a c f : Nat} (h : keptS l = (a, c, f)) (ha : a ≠ 0) (hf : l.length = f) (rec : List Nat) (h4 : rec.length ≤ 4096) {t : Nat} (ht : t < rec.length + 7) : keptS (l ++ (frameL 4 rec).take t) = (a, c, f) := by
  obtain ⟨ks, rfl, k1, k2, k3, k4, k5⟩ := clean_reg hb h ha hf
  rw [kept_join ks _ k1 (.inr (by rw [read_cut _ _ _ h4 ht]; decide)), if_pos k3, k2, List.take_length, k4, k5, hf]
/-- A beginning of what a region begins with doesn't count. -/
theorem begin_cut {age : Nat} {snap : List Nat} (h0 : 0 < age) (ha : age < 18446744073709551616) (hs : ∀ x ∈ snap, x < 256) (hn : snap.length ≤ 1048576) {t : Nat} (ht : t < (joinF (beginFs age snap)).length) : (keptS ((joinF (beginFs age snap)).take t)).1 = 0 := by
  have hk := begin_ok age ha snap hs hn
  obtain ⟨e1, e2⟩ := begin_take (age := age) (snap := snap) h0 ha (by omega)
  obtain ⟨j, rest', _, e, g3, _, g5⟩ := pre_cut [] (fun x hx => by cases hx) (.inl rfl) (beginFs age snap) t hk
  rw [List.append_nil] at e
  have hj := g5 ht
  rw [e, kept_join _ rest' (fun x hx => hk x (List.mem_of_mem_take hx)) g3]
  by_cases hr : (endK o0 ((beginFs age snap).take j)).ready = true
  · exfalso
    have hT := takeK_full _ o0 j e1
    obtain ⟨f1, _⟩ := takeK_append ((beginFs age snap).take j) ((beginFs age snap).drop j) o0 hT
    rw [List.take_append_drop, e1, List.length_take, Nat.min_eq_left (Nat.le_of_lt hj)] at f1
    have hS := endK_sane ((beginFs age snap).take j) o0 sane0
    have hn4 := next_ready hS hr
    cases hd : (beginFs age snap).drop j with
    | nil =>
      have := congrArg List.length hd
      rw [List.length_drop] at this
      simp at this
      omega
    | cons y ys =>
      rw [hd] at f1
      have hy : y ∈ beginFs age snap := List.mem_of_mem_drop (by rw [hd]; simp)
      have hy3 : y.1 ≤ 3 := by
        rw [begin_eq] at hy
        rcases List.mem_cons.1 hy with rfl | hy
        · show 1 ≤ 3; decide
        · rcases List.mem_append.1 hy with hy | hy
          · obtain ⟨i, _, rfl⟩ := List.mem_map.1 hy
            show 2 ≤ 3; decide
          · simp at hy; subst hy; show 3 ≤ 3; decide
      have hno : ¬ (takeS (endK o0 ((beginFs age snap).take j)) y.1 y.2).2 = true := by
        unfold takeS
        rw [if_pos (by omega)]
        exact Bool.false_ne_true
      have e3 : takeK (endK o0 ((beginFs age snap).take j)) (y :: ys) = 0 := if_neg hno
      rw [e3] at f1
      omega
  · rw [if_neg hr]

/-- A device on which a journal would be opened: it has a snapshot and records. -/
structure Liv (D : DevS) (r a c f : Nat) (S : List Nat) (R : List (List Nat)) : Prop where
  new : newestS D = (r, (a, c, f))
  age : a ≠ 0
  reg : r = 0 ∨ r = 1
  sn : snapL ((D.row (r : Nat)).take f) = S
  rc : recsL ((D.row (r : Nat)).take f) = R
theorem JOk.liv {D : DevS} {r a c f : Nat} {S : List Nat} {R : List (List Nat)} (h : JOk D r a c f) (hs : snapL (D.row (r : Nat)) = S) (hr : recsL (D.row (r : Nat)) = R) : Liv D r a c f S R := by
  have e : (D.row (r : Nat)).take f = D.row (r : Nat) := List.take_of_length_le (by rw [h.fin]; exact Nat.le_refl _)
  exact ⟨h.new, h.age, h.reg, by rw [e]; exact hs, by rw [e]; exact hr⟩
theorem Liv.kept {D : DevS} {r a c f : Nat} {S : List Nat} {R : List (List Nat)} (h : Liv D r a c f S R) : keptS (D.row (r : Nat)) = (a, c, f) := by
  have := h.new
  unfold newestS at this
  split at this
  · simp only [Prod.mk.injEq] at this; obtain ⟨rfl, h2⟩ := this; exact h2
  · simp only [Prod.mk.injEq] at this; obtain ⟨rfl, h2⟩ := this; exact h2
theorem Liv.regB {D : DevS} {r a c f : Nat} {S : List Nat} {R : List (List Nat)} (h : Liv D r a c f S R) : regB ((r : Nat) : Int) = true := by rcases h.reg with rfl | rfl <;> rfl
theorem Liv.restore {D : DevS} {r a c f : Nat} {S : List Nat} {R : List (List Nat)} (h : Liv D r a c f S R) : Liv (restoreS D) r a c f S R := ⟨h.new, h.age, h.reg, h.sn, h.rc⟩
theorem Liv.cut {D : DevS} {r a c f : Nat} {S : List Nat} {R : List (List Nat)} (h : Liv D r a c f S R) (n : Int) : Liv (cutS D n) r a c f S R := ⟨h.new, h.age, h.reg, h.sn, h.rc⟩
theorem JOk.restore {D : DevS} {r a c f : Nat} (h : JOk D r a c f) : JOk (restoreS D) r a c f := ⟨h.new, h.age, h.fin, h.reg, rfl⟩
theorem JOk.cut {D : DevS} {r a c f : Nat} (h : JOk D r a c f) (n : Int) : JOk (cutS D n) r a c f := ⟨h.new, h.age, h.fin, h.reg, h.down⟩
/-- Whatever becomes of the other region, as long as it gets no age of its own. -/
theorem newest_other {D D2 : DevS} {r a c f : Nat} (hn : newestS D = (r, (a, c, f))) (ha : a ≠ 0) (hrow : D2.row (r : Nat) = D.row (r : Nat)) (ho : (keptS (D2.row (1 - (r : Nat) : Int))).1 = 0 ∨ (keptS (D2.row (1 - (r : Nat) : Int))).1 = (keptS (D.row (1 - (r : Nat) : Int))).1) : newestS D2 = (r, (a, c, f)) := by
  unfold newestS at hn
  by_cases hlt : (keptS D.r0).1 < (keptS D.r1).1
  · rw [if_pos hlt] at hn
    simp only [Prod.mk.injEq] at hn
    obtain ⟨rfl, hk⟩ := hn
    have e1 : D2.r1 = D.r1 := hrow
    have e0 : (keptS D2.r0).1 = 0 ∨ (keptS D2.r0).1 = (keptS D.r0).1 := ho
    unfold newestS
    rw [e1, hk, if_pos]
    rw [hk] at hlt
    have hlt' : (keptS D.r0).1 < a := hlt
    show (keptS D2.r0).1 < a
    omega
  · rw [if_neg hlt] at hn
    simp only [Prod.mk.injEq] at hn
    obtain ⟨rfl, hk⟩ := hn
    have e1 : D2.r0 = D.r0 := hrow
    have e0 : (keptS D2.r1).1 = 0 ∨ (keptS D2.r1).1 = (keptS D.r1).1 := ho
    unfold newestS
    rw [e1, hk, if_neg]
    rw [hk] at hlt
    have hlt' : ¬ a < (keptS D.r1).1 := hlt
    show ¬ a < (keptS D2.r1).1
    omega
theorem down_30 {n t : Nat} (h : t < n) : downE n t = 30 := if_pos h
/-- The power goes while a record is appended. -/
theorem app_cut {D : DevS} {r a c f : Nat} {S : List Nat} {R : List (List Nat)} (ok : D.Ok) (h : JOk D r a c f) (hs : snapL (D.row (r : Nat)) = S) (hr : recsL (D.row (r : Nat)) = R) (rec : List Nat) (h4 : rec.length ≤ 4096) (hfit : f + (rec.length + 7) ≤ D.cap) (hp : D.left < rec.length + 7) :
    (appS D (r : Nat) (frameL 4 rec)).2 = 30 ∧ Liv (appS D (r : Nat) (frameL 4 rec)).1 r a c f S R ∧ (appS D (r : Nat) (frameL 4 rec)).1.cap = D.cap := by
  have hfl := frame_len 4 rec
  have e1 : appS D (r : Nat) (frameL 4 rec) = ((D.turn (rec.length + 7)).put (r : Nat) (D.row (r : Nat) ++ (frameL 4 rec).take D.left), 30) := by
    rw [appS_fit h.down h.regB (by rw [h.fin, hfl]; omega)]
    unfold addS
    rw [hfl, down_30 hp, show doneN (rec.length + 7) D.left = D.left from Nat.min_eq_right (by omega)]
  have hrow : ((D.turn (rec.length + 7)).put (r : Nat) (D.row (r : Nat) ++ (frameL 4 rec).take D.left)).row (r : Nat) = D.row (r : Nat) ++ (frameL 4 rec).take D.left := put_row h.regB
  have hoth : ((D.turn (rec.length + 7)).put (r : Nat) (D.row (r : Nat) ++ (frameL 4 rec).take D.left)).row (1 - (r : Nat) : Int) = D.row (1 - (r : Nat) : Int) := put_other h.reg _
  have htk : (D.row (r : Nat) ++ (frameL 4 rec).take D.left).take f = D.row (r : Nat) := by rw [← h.fin]; exact List.take_left'  rfl
  rw [e1]
  refine ⟨rfl, ⟨newest_same h (by rw [hrow]; exact kept_more (ok.row (r : Nat)).2 h.kept h.age h.fin rec h4 hp) hoth, h.age, h.reg, ?_, ?_⟩, put_cap _ _ _⟩
  · rw [hrow, htk]; exact hs
  · rw [hrow, htk]; exact hr
/-- The power goes while a snapshot is put in the place of all. -/
theorem comp_cut {D : DevS} {r a c f : Nat} {S : List Nat} {R : List (List Nat)} (ok : D.Ok) (h : JOk D r a c f) (hs : snapL (D.row (r : Nat)) = S) (hr : recsL (D.row (r : Nat)) = R) (snap : List Nat) (hsn : Bytes snap) (ha : a < 18446744073709551615) (hfit : heavyN (a + 1) snap.length ≤ D.cap) (hp : D.left < heavyN (a + 1) snap.length + (D.row (1 - (r : Nat) : Int)).length) :
    (compS D (r : Nat) a snap).2 = 30 ∧ Liv (compS D (r : Nat) a snap).1 r a c f S R ∧ (compS D (r : Nat) a snap).1.cap = D.cap := by
  have hrB : regB ((1 : Int) - (r : Nat)) = true := by rcases h.reg with rfl | rfl <;> rfl
  have hrow : ∀ (E : DevS) (l : List Nat), (E.put ((1 : Int) - (r : Nat)) l).row (r : Nat) = E.row (r : Nat) := fun E l => by rcases h.reg with rfl | rfl <;> rfl
  have htk : (D.row (r : Nat)).take f = D.row (r : Nat) := List.take_of_length_le (by rw [h.fin]; exact Nat.le_refl _)
  obtain ⟨o, ho⟩ : ∃ o, (D.row ((1 : Int) - (r : Nat))).length = o := ⟨_, rfl⟩
  rw [ho] at hp
  by_cases hlt : D.left < o
  · have ht := truncS_ok (D := D) (i := (1 : Int) - (r : Nat)) (n := 0) h.down hrB (Nat.zero_le _)
    rw [ho, Nat.sub_zero, down_30 hlt] at ht
    have e1 : compS D (r : Nat) a snap = ((D.turn o).put ((1 : Int) - (r : Nat)) ((D.row ((1 : Int) - (r : Nat))).take (o - doneN o D.left)), 30) := by
      have ht' : truncS D ((1 : Int) - (r : Nat)) 0 = _ := ht
      unfold compS
      rw [if_neg (by omega), if_neg (by omega), ht', if_pos (by show (30 : Int) ≠ 0; decide)]
    rw [e1]
    refine ⟨rfl, ⟨newest_other h.new h.age (hrow _ _) ?_, h.age, h.reg, ?_, ?_⟩, put_cap _ _ _⟩
    · rw [put_row hrB]
      exact age_cut _ (ok.row _).2 _
    · rw [hrow]; show snapL ((D.row (r : Nat)).take f) = S; rw [htk]; exact hs
    · rw [hrow]; show recsL ((D.row (r : Nat)).take f) = R; rw [htk]; exact hr
  · have ht := truncS_pow (D := D) (i := (1 : Int) - (r : Nat)) (n := 0) h.down hrB (Nat.zero_le _) (by omega)
    rw [ho, Nat.sub_zero, List.take_zero] at ht
    obtain ⟨E, hE⟩ : ∃ E, (D.turn o).put ((1 : Int) - (r : Nat)) [] = E := ⟨_, rfl⟩
    rw [hE] at ht
    have hEd : E.down = false := by rw [← hE, put_down]; exact turn_down h.down (by omega)
    have hEl : E.left = D.left - o := by rw [← hE, put_left]; exact turn_left (by omega)
    have hEc : E.cap = D.cap := by rw [← hE]; exact put_cap _ _ _
    have hEr : E.row ((1 : Int) - (r : Nat)) = [] := by rw [← hE]; exact put_row hrB
    have hEo : E.row (r : Nat) = D.row (r : Nat) := by rw [← hE]; exact hrow _ _
    have e1 : compS D (r : Nat) a snap = ((E.turn (heavyN (a + 1) snap.length)).put ((1 : Int) - (r : Nat)) ((joinF (beginFs (a + 1) snap)).take E.left), 30) := by
      have ht' : truncS D ((1 : Int) - (r : Nat)) 0 = (E, 0) := ht
      unfold compS
      rw [if_neg (by omega), if_neg (by omega), ht', if_neg (fun h => h rfl)]
      show appsS E _ _ = _
      rw [appsS_fit hrB _ _ hEd (by rw [hEr, hEc, begin_length]; simpa using hfit) (by simp [beginFs])]
      unfold addS
      rw [begin_length, down_30 (by omega), show doneN (heavyN (a + 1) snap.length) E.left = E.left from Nat.min_eq_right (by omega), hEr, List.nil_append]
    rw [e1]
    refine ⟨rfl, ⟨newest_other h.new h.age ((hrow _ _).trans hEo) ?_, h.age, h.reg, ?_, ?_⟩, (put_cap _ _ _).trans hEc⟩
    · rw [put_row hrB]
      left
      exact begin_cut (by omega) (by omega) hsn.2 hsn.1 (by rw [begin_length]; omega)
    · rw [hrow]; show snapL ((E.row (r : Nat)).take f) = S; rw [hEo, htk]; exact hs
    · rw [hrow]; show recsL ((E.row (r : Nat)).take f) = R; rw [hEo, htk]; exact hr
/-- Opened with whatever power. -/
theorem open_liv {D : DevS} {r a c f : Nat} {S : List Nat} {R : List (List Nat)} (ok : D.Ok) (h : Liv D r a c f S R) (hd : D.down = false) :
    ((openS D).2 = 0 ∧ JOk (openS D).1 r a c f ∧ snapL ((openS D).1.row (r : Nat)) = S ∧ recsL ((openS D).1.row (r : Nat)) = R ∧ (openS D).1.cap = D.cap) ∨
    (D.left < D.cap ∧ (openS D).2 = 30 ∧ Liv (openS D).1 r a c f S R ∧ (openS D).1.cap = D.cap) := by
  have hk := h.kept
  obtain ⟨h1, h2⟩ := kept_age (ok.row (r : Nat)).2 hk h.age
  have e0 : openS D = truncS D (r : Nat) (f : Nat) := by
    unfold openS
    rw [hd, if_neg (by decide), h.new, if_neg (show ¬ a = 0 from h.age)]
  have hoth : ∀ (n : Nat) (l : List Nat), ((D.turn n).put (r : Nat) l).row (1 - (r : Nat) : Int) = D.row (1 - (r : Nat) : Int) := fun n l => put_other h.reg _
  have hn2 : ∀ (D2 : DevS), keptS (D2.row (r : Nat)) = (a, c, f) → D2.row (1 - (r : Nat) : Int) = D.row (1 - (r : Nat) : Int) → newestS D2 = (r, (a, c, f)) := fun D2 q1 q2 => by
    have hn := h.new
    rcases h.reg with rfl | rfl
    · have k0 : keptS D2.r0 = (a, c, f) := q1
      have k1 : D2.r1 = D.r1 := q2
      have k2 : keptS D.r0 = (a, c, f) := hk
      unfold newestS at hn ⊢
      rw [k2] at hn
      rw [k0, k1]
      exact hn
    · have k0 : keptS D2.r1 = (a, c, f) := q1
      have k1 : D2.r0 = D.r0 := q2
      have k2 : keptS D.r1 = (a, c, f) := hk
      unfold newestS at hn ⊢
      rw [k2] at hn
      rw [k0, k1]
      by_cases hlt : (keptS D.r0).1 < (a, c, f).1
      · rw [if_pos hlt]
      · rw [if_neg hlt] at hn
        simp only [Prod.mk.injEq] at hn
        exact absurd hn.1 (by decide)
  by_cases hp : (D.row (r : Nat)).length - f ≤ D.left
  · left
    rw [e0, truncS_pow hd h.regB h1 hp]
    have hrow : ((D.turn ((D.row (r : Nat)).length - f)).put (r : Nat) ((D.row (r : Nat)).take f)).row (r : Nat) = (D.row (r : Nat)).take f := put_row h.regB
    refine ⟨rfl, ⟨hn2 _ (by rw [hrow]; exact h2) (hoth _ _), h.age, ?_, h.reg, ?_⟩, by rw [hrow]; exact h.sn, by rw [hrow]; exact h.rc, put_cap _ _ _⟩
    · rw [hrow, List.length_take]; omega
    · rw [put_down]; exact turn_down hd hp
  · right
    have hlen := (ok.row (r : Nat)).1
    rw [e0, truncS_ok hd h.regB h1, down_30 (by omega)]
    obtain ⟨m, hm⟩ : ∃ m, (D.row (r : Nat)).length - doneN ((D.row (r : Nat)).length - f) D.left = m := ⟨_, rfl⟩
    rw [hm]
    have hfm : f ≤ m := by
      have : doneN ((D.row (r : Nat)).length - f) D.left ≤ (D.row (r : Nat)).length - f := Nat.min_le_left _ _
      omega
    have hrow : ((D.turn ((D.row (r : Nat)).length - f)).put (r : Nat) ((D.row (r : Nat)).take m)).row (r : Nat) = (D.row (r : Nat)).take m := put_row h.regB
    have htt : ((D.row (r : Nat)).take m).take f = (D.row (r : Nat)).take f := by rw [List.take_take, Nat.min_eq_left hfm]
    refine ⟨by omega, rfl, ⟨hn2 _ (by rw [hrow]; exact kept_stay (ok.row (r : Nat)).2 hk h.age hfm) (hoth _ _), h.age, h.reg, ?_, ?_⟩, put_cap _ _ _⟩
    · rw [hrow, htt]; exact h.sn
    · rw [hrow, htt]; exact h.rc
end Go.Proofs.Ytpllbojmonfeiaa
