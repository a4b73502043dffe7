/- Devices and journals: rows of appends; opening with power. -/
import Derived.Test.YtocmfdahnekboaaDoorJrnG
import Derived.Test.YtocmfdahnekboaaDoorJrnX
import Derived.Test.YtocmfdahnekboaaDoorJrnAp
import Derived.Test.YtocmfdahnekboaaDoorJrnR
namespace Go.Proofs.YtocmfdahnekboaaDoor
open Go.RowKit SumM
set_option linter.unusedVariables false

/-- An append that has room. -/
def addS (D : DevS) (i : Int) (T : List Nat) : DevS × Int := ((D.turn T.length).put i (D.row i ++ T.take (doneN T.length D.left)), downE T.length D.left)
theorem appS_fit {D : DevS} {i : Int} {l : List Nat} (hd : D.down = false) (hi : regB i = true) (hf : (D.row i).length + l.length ≤ D.cap) : appS D i l = addS D i l := by
  unfold appS
  rw [if_neg (by rw [hd]; decide), if_neg (by rw [hi]; decide), if_neg (by omega)]
  rfl
theorem appS_full {D : DevS} {i : Int} {l : List Nat} (hd : D.down = false) (hi : regB i = true) (hf : D.cap < (D.row i).length + l.length) (hr : (D.row i).length ≤ D.cap) : appS D i l = (D, 6) := by
  unfold appS
  rw [if_neg (by rw [hd]; decide), if_neg (by rw [hi]; decide), if_pos (by omega)]
theorem put_row {D : DevS} {i : Int} {l : List Nat} (hi : regB i = true) : (D.put i l).row i = l := by
  rcases regB_t hi with rfl | rfl <;> rfl
theorem turn_row (D : DevS) (n : Nat) (i : Int) : (D.turn n).row i = D.row i := rfl
theorem turnedN_add (t a b : Nat) : turnedN (turnedN t a) b = turnedN t (a + b) := by unfold turnedN; omega
theorem turnedN_0 {t : Nat} (h : t ≤ 1099511627776) : turnedN t 0 = t := by unfold turnedN; omega
theorem put_put (D : DevS) (i : Int) (a b : List Nat) : (D.put i a).put i b = D.put i b := by unfold DevS.put; split <;> rfl
theorem put_turn (D : DevS) (i : Int) (a : List Nat) (n : Nat) : (D.put i a).turn n = (D.turn n).put i a := by unfold DevS.put; split <;> rfl
theorem put_left (D : DevS) (i : Int) (a : List Nat) : (D.put i a).left = D.left := by unfold DevS.put; split <;> rfl
theorem put_cap (D : DevS) (i : Int) (a : List Nat) : (D.put i a).cap = D.cap := by unfold DevS.put; split <;> rfl
theorem put_down (D : DevS) (i : Int) (a : List Nat) : (D.put i a).down = D.down := by unfold DevS.put; split <;> rfl
theorem put_turned (D : DevS) (i : Int) (a : List Nat) : (D.put i a).turned = D.turned := by unfold DevS.put; split <;> rfl
theorem turn_turn {D : DevS} {a b : Nat} (h : a ≤ D.left) : (D.turn a).turn b = D.turn (a + b) := by
  have e1 : doneN a D.left = a := Nat.min_eq_left h
  unfold DevS.turn
  rw [e1]
  have e2 : a + doneN b (D.left - a) = doneN (a + b) D.left := by unfold doneN; omega
  have e3 : decide (D.left < a) = false := decide_eq_false (by omega)
  have e4 : decide (D.left - a < b) = decide (D.left < a + b) := by
    by_cases h2 : D.left < a + b
    · rw [decide_eq_true h2, decide_eq_true (by omega)]
    · rw [decide_eq_false h2, decide_eq_false (by omega)]
  show DevS.mk _ _ _ _ _ _ = DevS.mk _ _ _ _ _ _
  congr 1
  · show ((D.down || decide (D.left < a)) || decide (D.left - a < b)) = _
    rw [e3, e4, Bool.or_false]
  · show D.left - a - doneN b (D.left - a) = D.left - doneN (a + b) D.left
    rw [← e2]; omega
  · show turnedN (turnedN D.turned a) (doneN b (D.left - a)) = _
    rw [turnedN_add, e2]
theorem turn_over {D : DevS} {a b : Nat} (h : D.left < a) : D.turn (a + b) = D.turn a := by
  have e1 : doneN a D.left = D.left := Nat.min_eq_right (by omega)
  have e2 : doneN (a + b) D.left = D.left := Nat.min_eq_right (by omega)
  unfold DevS.turn
  rw [e1, e2, decide_eq_true h, decide_eq_true (by omega : D.left < a + b)]
theorem addS_append {D : DevS} {i : Int} (hi : regB i = true) (A B : List Nat) : addS D i (A ++ B) = if (addS D i A).2 ≠ 0 then addS D i A else addS (addS D i A).1 i B := by
  by_cases h : A.length ≤ D.left
  · have e0 : (addS D i A).2 = 0 := by show downE _ _ = 0; unfold downE; rw [if_neg (by omega)]
    have e1 : doneN A.length D.left = A.length := Nat.min_eq_left h
    rw [if_neg (by rw [e0]; exact fun h => h rfl)]
    have eA : (addS D i A).1 = (D.turn A.length).put i (D.row i ++ A) := by unfold addS; rw [e1, List.take_length]
    rw [eA]
    unfold addS
    rw [put_row hi, put_turn, put_put, put_left, turn_turn h, List.length_append]
    have e2 : (D.turn A.length).left = D.left - A.length := by show D.left - doneN _ _ = _; rw [e1]
    rw [e2]
    have e3 : doneN (A.length + B.length) D.left = A.length + doneN B.length (D.left - A.length) := by unfold doneN; omega
    have e4 : downE (A.length + B.length) D.left = downE B.length (D.left - A.length) := by
      unfold downE
      by_cases h2 : D.left < A.length + B.length
      · rw [if_pos h2, if_pos (by omega)]
      · rw [if_neg h2, if_neg (by omega)]
    rw [e3, e4, List.take_append, List.take_of_length_le (by omega), Nat.add_sub_cancel_left, List.append_assoc]
  · have e0 : (addS D i A).2 ≠ 0 := by show downE _ _ ≠ 0; unfold downE; rw [if_pos (by omega)]; decide
    rw [if_pos e0]
    unfold addS
    have e1 : doneN A.length D.left = D.left := Nat.min_eq_right (by omega)
    have e2 : doneN (A ++ B).length D.left = D.left := Nat.min_eq_right (by rw [List.length_append]; omega)
    rw [e1, e2, List.take_append, show D.left - A.length = 0 from by omega, List.take_zero, List.append_nil, List.length_append, turn_over (by omega)]
    have e3 : downE (A.length + B.length) D.left = downE A.length D.left := by unfold downE; rw [if_pos (by omega), if_pos (by omega)]
    rw [e3]
theorem addS_cap (D : DevS) (i : Int) (T : List Nat) : (addS D i T).1.cap = D.cap := put_cap _ _ _
theorem addS_row {D : DevS} {i : Int} (hi : regB i = true) (T : List Nat) : (addS D i T).1.row i = D.row i ++ T.take (doneN T.length D.left) := put_row hi
theorem addS_down {D : DevS} {i : Int} (hd : D.down = false) (T : List Nat) (h : (addS D i T).2 = 0) : (addS D i T).1.down = false := by
  show ((D.turn T.length).put i _).down = false
  rw [put_down]
  show (D.down || decide (D.left < T.length)) = false
  have : downE T.length D.left = 0 := h
  unfold downE at this
  split at this
  · cases this
  · rename_i h2
    rw [hd, decide_eq_false h2]; rfl
theorem put_self {D : DevS} {i : Int} (hi : regB i = true) : D.put i (D.row i) = D := by rcases regB_t hi with rfl | rfl <;> rfl
theorem turn_0 {D : DevS} (h : D.turned ≤ 1099511627776) : D.turn 0 = D := by
  unfold DevS.turn
  have e1 : doneN 0 D.left = 0 := Nat.min_eq_left (Nat.zero_le _)
  rw [e1, turnedN_0 h, decide_eq_false (Nat.not_lt_zero _), Bool.or_false, Nat.sub_zero]
theorem addS_nil {D : DevS} {i : Int} (hi : regB i = true) (h : D.turned ≤ 1099511627776) : addS D i [] = (D, 0) := by
  unfold addS
  rw [show ([] : List Nat).length = 0 from rfl, turn_0 h, List.take_nil, List.append_nil, put_self hi]
  unfold downE
  rw [if_neg (Nat.not_lt_zero _)]
/-- A truncation that may be. -/
theorem truncS_ok {D : DevS} {i : Int} {n : Nat} (hd : D.down = false) (hi : regB i = true) (hn : n ≤ (D.row i).length) :
    truncS D i n = ((D.turn ((D.row i).length - n)).put i ((D.row i).take ((D.row i).length - doneN ((D.row i).length - n) D.left)), downE ((D.row i).length - n) D.left) := by
  unfold truncS
  rw [if_neg (by rw [hd]; decide), if_neg (by rw [hi]; intro h; rcases h with h | h | h; cases h; omega; omega), Int.toNat_natCast]
/-- With power enough. -/
theorem truncS_pow {D : DevS} {i : Int} {n : Nat} (hd : D.down = false) (hi : regB i = true) (hn : n ≤ (D.row i).length) (hp : (D.row i).length - n ≤ D.left) :
    truncS D i n = ((D.turn ((D.row i).length - n)).put i ((D.row i).take n), 0) := by
  rw [truncS_ok hd hi hn]
  have e1 : doneN ((D.row i).length - n) D.left = (D.row i).length - n := Nat.min_eq_left hp
  rw [e1, show (D.row i).length - ((D.row i).length - n) = n from by omega]
  unfold downE
  rw [if_neg (by omega)]
/-- One that takes nothing away. -/
theorem truncS_none {D : DevS} {i : Int} {n : Nat} (hd : D.down = false) (hi : regB i = true) (hn : n = (D.row i).length) (ht : D.turned ≤ 1099511627776) : truncS D i n = (D, 0) := by
  rw [truncS_pow hd hi (by omega) (by omega), show (D.row i).length - n = 0 from by omega, turn_0 ht, List.take_of_length_le (by omega), put_self hi]
theorem turn_down {D : DevS} {n : Nat} (hd : D.down = false) (h : n ≤ D.left) : (D.turn n).down = false := by
  show (D.down || decide (D.left < n)) = false
  rw [hd, decide_eq_false (by omega)]; rfl
theorem turn_left {D : DevS} {n : Nat} (h : n ≤ D.left) : (D.turn n).left = D.left - n := by
  show D.left - doneN n D.left = _
  rw [show doneN n D.left = n from Nat.min_eq_left h]
/-- Frames appended one by one, that have room: as if all at once. -/
theorem appsS_fit {i : Int} (hi : regB i = true) : ∀ (fs : List (Nat × List Nat)) (D : DevS), D.down = false → (D.row i).length + (joinF fs).length ≤ D.cap → fs ≠ [] → appsS D i fs = addS D i (joinF fs)
  | [], _, _, _, h => absurd rfl h
  | f :: fs, D, hd, hf, _ => by
    have ej : joinF (f :: fs) = frameL f.1 f.2 ++ joinF fs := joinF_cons f fs
    rw [ej, List.length_append] at hf
    rw [ej, addS_append hi, appsS_one, appS_fit hd hi (by omega)]
    by_cases h0 : (addS D i (frameL f.1 f.2)).2 ≠ 0
    · rw [if_pos h0, if_pos h0]
    · rw [if_neg h0, if_neg h0]
      have h0' : (addS D i (frameL f.1 f.2)).2 = 0 := Decidable.not_not.1 h0
      cases fs with
      | nil =>
        show ((addS D i (frameL f.1 f.2)).1, (0 : Int)) = addS (addS D i (frameL f.1 f.2)).1 i []
        rw [addS_nil hi (by show ((D.turn _).put i _).turned ≤ _; rw [put_turned]; exact Nat.min_le_right _ _)]
      | cons g gs =>
        refine appsS_fit hi (g :: gs) _ (addS_down hd _ h0') ?_ (by simp)
        rw [addS_row hi, addS_cap, List.length_append, List.length_take]
        omega
theorem addS_pow {D : DevS} {i : Int} {T : List Nat} (h : T.length ≤ D.left) : addS D i T = ((D.turn T.length).put i (D.row i ++ T), 0) := by
  unfold addS
  rw [show doneN T.length D.left = T.length from Nat.min_eq_left h, List.take_length]
  unfold downE
  rw [if_neg (by omega)]
/-- What a new journal begins with. -/
def freshL : List Nat := joinF (beginFs 1 [])
theorem head_10 : headB 1 0 = [1, 0] := by
  unfold headB
  rw [uv_lt (by decide), show piecesN 0 = 0 from rfl, uv_lt (by decide)]
  rfl
theorem fresh_len : freshL.length = 16 := by
  unfold freshL
  rw [begin_length]
  have e := head_10
  show heavyN 1 0 = 16
  unfold heavyN
  rw [e]
  rfl
theorem fresh_bytes : ∀ x ∈ freshL, x < 256 := joinF_bytes (begin_ok 1 (by decide) [] (fun x hx => by cases hx) (by simp))
theorem heavy_10 : heavyN 1 0 = 16 := by
  have := begin_length 1 []
  rw [show joinF (beginFs 1 []) = freshL from rfl, fresh_len] at this
  exact this.symm
theorem fresh_kept : keptS freshL = (1, 0, 16) := by
  have h := kept_join (beginFs 1 []) [] (begin_ok 1 (by decide) [] (fun x hx => by cases hx) (by simp)) (.inl rfl)
  obtain ⟨e1, e2⟩ := begin_take (age := 1) (snap := []) (by decide) (by decide) (by simp)
  rw [List.append_nil, e1, e2, List.take_length] at h
  have h2 : keptS freshL = (1, cntK 4 (beginFs 1 []), (joinF (beginFs 1 [])).length) := h.trans (if_pos rfl)
  rw [h2, show (joinF (beginFs 1 [])).length = 16 from fresh_len]
  have h3 : cntK 4 (beginFs 1 []) = 0 := by
    have := (reg_bods 1 [] []).2.2
    unfold regL at this
    simpa using this
  rw [h3]
theorem kept_nil : keptS [] = (0, 0, 0) := by
  unfold keptS
  rw [scanL_end (by simp)]
  rfl
/-- Both regions emptied, with power enough. -/
theorem wipe_pow {D : DevS} (hd : D.down = false) (hp : D.r0.length + D.r1.length ≤ D.left) :
    wipeS D 2 = ({ D.turn (D.r0.length + D.r1.length) with r0 := [], r1 := [] }, 0) := by
  have e0 : truncS D 0 ((0 : Nat) : Int) = ((D.turn D.r0.length).put 0 [], 0) := by
    have := truncS_pow (D := D) (i := 0) (n := 0) hd rfl (Nat.zero_le _) (by show D.r0.length - 0 ≤ _; omega)
    rw [show (D.row 0).length - 0 = D.r0.length from rfl, List.take_zero] at this
    exact this
  have e1 : wipeS D 1 = ((D.turn D.r0.length).put 0 [], 0) := by
    show (if (wipeS D 0).2 ≠ 0 then wipeS D 0 else truncS (wipeS D 0).1 ((0 : Nat) : Int) 0) = _
    rw [if_neg (fun h => h rfl)]
    exact e0
  have hd1 : ((D.turn D.r0.length).put 0 []).down = false := by rw [put_down]; exact turn_down hd (by omega)
  have hl1 : ((D.turn D.r0.length).put 0 []).left = D.left - D.r0.length := by rw [put_left]; exact turn_left (by omega)
  have hr1 : ((D.turn D.r0.length).put 0 []).row 1 = D.r1 := rfl
  have e2 := truncS_pow (D := (D.turn D.r0.length).put 0 []) (i := 1) (n := 0) hd1 rfl (Nat.zero_le _) (by rw [hr1, hl1]; omega)
  rw [hr1, Nat.sub_zero, List.take_zero, put_turn, turn_turn (by omega)] at e2
  show (if (wipeS D 1).2 ≠ 0 then wipeS D 1 else truncS (wipeS D 1).1 ((1 : Nat) : Int) 0) = _
  rw [e1, if_neg (fun h => h rfl)]
  exact e2
/-- A device that has power enough and no journal: one begins, or there is no room. -/
theorem start_pow {D : DevS} (hd : D.down = false) (hp : D.r0.length + D.r1.length + 16 ≤ D.left) :
    (16 ≤ D.cap ∧ startS D = ({ D.turn (D.r0.length + D.r1.length + 16) with r0 := freshL, r1 := [] }, 0)) ∨ (D.cap < 16 ∧ (startS D).2 = 6) := by
  have hw := wipe_pow hd (by omega)
  obtain ⟨E, hE⟩ : ∃ E : DevS, { D.turn (D.r0.length + D.r1.length) with r0 := [], r1 := [] } = E := ⟨_, rfl⟩
  rw [hE] at hw
  have hEd : E.down = false := by rw [← hE]; exact turn_down hd (by omega)
  have hEl : E.left = D.left - (D.r0.length + D.r1.length) := by rw [← hE]; exact turn_left (by omega)
  have hEc : E.cap = D.cap := by rw [← hE]; rfl
  have hEr : E.row 0 = [] := by rw [← hE]; rfl
  rw [wipe_all hw]
  by_cases hc : 16 ≤ D.cap
  · refine .inl ⟨hc, ?_⟩
    rw [appsS_fit rfl _ _ hEd (by rw [hEr, hEc]; show 0 + freshL.length ≤ _; rw [fresh_len]; omega) (by simp [beginFs])]
    show addS E 0 freshL = _
    rw [addS_pow (by rw [fresh_len, hEl]; omega), hEr, fresh_len, List.nil_append]
    refine Prod.ext ?_ rfl
    show (E.turn 16).put 0 freshL = _
    rw [← hE]
    have := turn_turn (D := D) (a := D.r0.length + D.r1.length) (b := 16) (by omega)
    rw [← this]
    rfl
  · refine .inr ⟨by omega, ?_⟩
    have e : beginFs 1 [] = [(1, headB 1 0), (3, [])] := rfl
    have e1 : (frameL 1 (headB 1 0)).length = 9 := by
      rw [frame_len]
      rw [head_10]; rfl
    have e3 : (frameL 3 []).length = 7 := frame_len 3 []
    rw [e, appsS_one]
    by_cases h9 : D.cap < 9
    · have := appS_full (D := E) (i := 0) (l := frameL 1 (headB 1 0)) hEd rfl (by rw [hEr, hEc, e1]; simpa using h9) (by rw [hEr]; exact Nat.zero_le _)
      have h6 : (appS E 0 (frameL ((1, headB 1 0) : Nat × List Nat).1 ((1, headB 1 0) : Nat × List Nat).2)).2 = 6 := by
        show (appS E 0 (frameL 1 (headB 1 0))).2 = 6
        rw [this]
      rw [if_pos (by rw [h6]; decide), h6]
    · have h1 := appS_fit (D := E) (i := 0) (l := frameL 1 (headB 1 0)) hEd rfl (by rw [hEr, hEc, e1]; simp; omega)
      have h2 := addS_pow (D := E) (i := 0) (T := frameL 1 (headB 1 0)) (by rw [e1, hEl]; omega)
      rw [h1, h2, if_neg (fun h => h rfl), appsS_one]
      have h3 := appS_full (D := (E.turn (frameL 1 (headB 1 0)).length).put 0 (E.row 0 ++ frameL 1 (headB 1 0))) (i := 0) (l := frameL 3 []) (by rw [put_down]; exact turn_down hEd (by rw [e1, hEl]; omega)) rfl (by rw [put_row rfl, put_cap, hEr, e3, List.nil_append, e1]; show E.cap < 16; omega) (by rw [put_row rfl, put_cap, hEr, List.nil_append, e1]; show 9 ≤ E.cap; omega)
      have h4 : (appS ((E.turn (frameL 1 (headB 1 0)).length).put 0 (E.row 0 ++ frameL 1 (headB 1 0))) 0 (frameL ((3, []) : Nat × List Nat).1 ((3, []) : Nat × List Nat).2)).2 = 6 := by
        show (appS _ 0 (frameL 3 [])).2 = 6
        rw [h3]
      rw [if_pos (by rw [h4]; decide), h4]
end Go.Proofs.YtocmfdahnekboaaDoor

/- journal.Open where there is power enough. -/
namespace Go.Proofs.YtocmfdahnekboaaDoor
open Go.RowKit SumM
set_option linter.unusedVariables false

/-- A journal that is the device's newest, and ends where its region does. -/
structure JOk (D : DevS) (r : Nat) (a c f : Nat) : Prop where
  new : newestS D = (r, (a, c, f))
  age : a ≠ 0
  fin : (D.row (r : Nat)).length = f
  reg : r = 0 ∨ r = 1
  down : D.down = false
theorem JOk.regB {D : DevS} {r a c f : Nat} (h : JOk D r a c f) : regB ((r : Nat) : Int) = true := by rcases h.reg with rfl | rfl <;> rfl
theorem JOk.kept {D : DevS} {r a c f : Nat} (h : JOk D r a c f) : keptS (D.row (r : Nat)) = (a, c, f) := by
  have := h.new
  unfold newestS at this
  split at this
  · simp only [Prod.mk.injEq] at this; obtain ⟨rfl, h2⟩ := this; exact h2
  · simp only [Prod.mk.injEq] at this; obtain ⟨rfl, h2⟩ := this; exact h2
/-- Opened once more it is the same. -/
theorem JOk.again {D : DevS} {r a c f : Nat} (h : JOk D r a c f) (ht : D.turned ≤ 1099511627776) : openS D = (D, 0) := by
  unfold openS
  rw [h.down, if_neg (by decide), h.new, if_neg (show ¬ a = 0 from h.age)]
  exact truncS_none h.down h.regB h.fin.symm ht
theorem kept_age {l : List Nat} {a c f : Nat} (hb : ∀ x ∈ l, x < 256) (h : keptS l = (a, c, f)) (ha : a ≠ 0) : f ≤ l.length ∧ keptS (l.take f) = (a, c, f) := by
  have := kept_cut l hb (by rw [h]; exact ha)
  rw [h] at this
  exact ⟨this.1, this.2.1⟩
/-- What Open comes to, with power enough. -/
theorem open_pow {D : DevS} (ok : D.Ok) (hd : D.down = false) (hp : D.r0.length + D.r1.length + 16 ≤ D.left) :
    (∃ D2 r a c f, openS D = (D2, 0) ∧ JOk D2 r a c f ∧ D2.cap = D.cap ∧ D.left ≤ D2.left + (D.r0.length + D.r1.length + 16) ∧ D2.r0.length + D2.r1.length ≤ D.r0.length + D.r1.length + 16 ∧
      ((newestS D).2.1 ≠ 0 ∧ newestS D = (r, (a, c, f)) ∨ (newestS D).2.1 = 0 ∧ startS D = (D2, 0) ∧ (r, a, c, f) = (0, 1, 0, heavyN 1 0) ∧ D2.r0 = freshL ∧ D2.r1 = [])) ∨
    ((openS D).2 = 6 ∧ D.cap < 16) := by
  obtain ⟨⟨n, a, c, f⟩, hN⟩ : ∃ N, newestS D = N := ⟨_, rfl⟩
  have e0 : openS D = if a = 0 then startS D else truncS D (n : Nat) (f : Nat) := by
    unfold openS
    rw [hd, if_neg (by decide), hN]
  by_cases ha : a = 0
  · rw [if_pos ha] at e0
    rcases start_pow hd hp with ⟨hc, hs⟩ | ⟨hc, hs⟩
    · refine .inl ⟨_, 0, 1, 0, 16, e0.trans hs, ⟨?_, by decide, ?_, .inl rfl, turn_down hd hp⟩, rfl, ?_, ?_, .inr ⟨by rw [hN]; exact ha, hs, by rw [heavy_10], rfl, rfl⟩⟩
      · unfold newestS
        show (if (keptS freshL).1 < (keptS []).1 then _ else ((0 : Nat), keptS freshL)) = _
        rw [fresh_kept, kept_nil, if_neg (by decide)]
      · exact fresh_len
      · show D.left ≤ (D.turn _).left + _
        rw [turn_left hp]; omega
      · show freshL.length + 0 ≤ _
        rw [fresh_len]; omega
    · exact .inr ⟨by rw [e0]; exact hs, hc⟩
  · rw [if_neg ha] at e0
    left
    have hN' := hN
    unfold newestS at hN
    by_cases hlt : (keptS D.r0).1 < (keptS D.r1).1
    · rw [if_pos hlt] at hN
      simp only [Prod.mk.injEq] at hN
      obtain ⟨rfl, hk⟩ := hN
      obtain ⟨h1, h2⟩ := kept_age ok.b1 hk ha
      have ht := truncS_pow (D := D) (i := 1) (n := f) hd rfl h1 (by show D.r1.length - f ≤ _; omega)
      rw [show (D.row 1) = D.r1 from rfl] at ht
      refine ⟨_, 1, a, c, f, e0.trans ht, ⟨?_, ha, ?_, .inr rfl, ?_⟩, rfl, ?_, ?_, .inl ⟨by rw [hN']; exact ha, hN'⟩⟩
      · unfold newestS
        show (if (keptS D.r0).1 < (keptS (D.r1.take f)).1 then ((1 : Nat), keptS (D.r1.take f)) else _) = _
        rw [h2, if_pos (by rw [hk] at hlt; exact hlt)]
      · show (D.r1.take f).length = f
        rw [List.length_take]; omega
      · exact turn_down hd (by omega)
      · show D.left ≤ (D.turn _).left + _
        rw [turn_left (by omega)]; omega
      · show D.r0.length + (D.r1.take f).length ≤ _
        rw [List.length_take]; omega
    · rw [if_neg hlt] at hN
      simp only [Prod.mk.injEq] at hN
      obtain ⟨rfl, hk⟩ := hN
      obtain ⟨h1, h2⟩ := kept_age ok.b0 hk ha
      have ht := truncS_pow (D := D) (i := 0) (n := f) hd rfl h1 (by show D.r0.length - f ≤ _; omega)
      rw [show (D.row 0) = D.r0 from rfl] at ht
      refine ⟨_, 0, a, c, f, e0.trans ht, ⟨?_, ha, ?_, .inl rfl, ?_⟩, rfl, ?_, ?_, .inl ⟨by rw [hN']; exact ha, hN'⟩⟩
      · unfold newestS
        show (if (keptS (D.r0.take f)).1 < (keptS D.r1).1 then _ else ((0 : Nat), keptS (D.r0.take f))) = _
        rw [h2, if_neg (by rw [hk] at hlt; exact hlt)]
      · show (D.r0.take f).length = f
        rw [List.length_take]; omega
      · exact turn_down hd (by omega)
      · show D.left ≤ (D.turn _).left + _
        rw [turn_left (by omega)]; omega
      · show (D.r0.take f).length + D.r1.length ≤ _
        rw [List.length_take]; omega

/-- journal.Open as it is called where there is power enough. -/
def OpenedTo (own : List Nat) (w : World) (b : Nat) (D : DevS) (e : Ending) (w' : World) : Prop :=
  (∃ D2 r a c f own' x y, e = .returned (.tuple #[.pointer (some ⟨w.heap.size, 0, none⟩), .int .i64 0]) ∧ openS D = (D2, 0) ∧ JOk D2 r a c f ∧ Dev own' w' b D2 x y ∧ JrnAt w' w.heap.size b (r : Nat) a c f ∧ w.heap.size ∉ own' ∧ But own w w' ∧ (∀ k ∈ own', k ∈ own ∨ w.heap.size ≤ k) ∧
    D2.cap = D.cap ∧ D.left ≤ D2.left + (D.r0.length + D.r1.length + 16) ∧ D2.r0.length + D2.r1.length ≤ D.r0.length + D.r1.length + 16 ∧ (D.r0 = [] → D.r1 = [] → r = 0 ∧ a = 1 ∧ c = 0 ∧ f = 16 ∧ D2.r0 = freshL ∧ D2.r1 = [])) ∨
  (e = .returned (.tuple #[.pointer none, .int .i64 6]) ∧ D.cap < 16 ∧ ∃ own' x y, Dev own' w' b (openS D).1 x y ∧ But own w w' ∧ (openS D).1.cap = D.cap ∧ ∀ k ∈ own', k ∈ own ∨ w.heap.size ≤ k)
theorem appsS_cap (i : Int) : ∀ (fs : List (Nat × List Nat)) (D : DevS), (appsS D i fs).1.cap = D.cap
  | [], D => rfl
  | f :: fs, D => by
    have h1 : (appS D i (frameL f.1 f.2)).1.cap = D.cap := by
      unfold appS
      split
      · rfl
      · split
        · rfl
        · split
          · rfl
          · exact put_cap _ _ _
    rw [appsS_one]
    split
    · exact h1
    · exact (appsS_cap i fs _).trans h1
theorem truncS_cap (D : DevS) (i n : Int) : (truncS D i n).1.cap = D.cap := by
  unfold truncS
  split
  · rfl
  · split
    · rfl
    · exact put_cap _ _ _
theorem wipeS_cap (D : DevS) : ∀ k, (wipeS D k).1.cap = D.cap
  | 0 => rfl
  | k + 1 => by
    show (if (wipeS D k).2 ≠ 0 then wipeS D k else truncS (wipeS D k).1 (k : Nat) 0).1.cap = _
    split
    · exact wipeS_cap D k
    · exact (truncS_cap _ _ _).trans (wipeS_cap D k)
theorem openS_cap (D : DevS) : (openS D).1.cap = D.cap := by
  unfold openS
  split
  · rfl
  · split
    · unfold startS
      split
      · exact wipeS_cap D 2
      · exact (appsS_cap _ _ _).trans (wipeS_cap D 2)
    · exact truncS_cap _ _ _
theorem opened_any {own : List Nat} {b : Nat} {D : DevS} {v0 v1 : Value} (w : World) (hD : Dev own w b D v0 v1) (hd : D.down = false) (hp : D.r0.length + D.r1.length + 16 ≤ D.left) :
    Calls Tryd.prog 10 #[.pointer (some ⟨b, 0, none⟩)] w (OpenedTo own w b D) := by
  refine (opens_any w hD).mono ?_
  rintro e w' ⟨he, e', h1, own', x, y, d, hb, hs, hj⟩
  have hb' : But own w w' := by
    have hbA : But own w (w.alloc (.cells #[.pointer (some ⟨b, 0, none⟩), .int .i64 0, .int .u64 0, .int .i64 0, .int .i64 0] 71)) := But.of_below ((Below.refl _ _).alloc (Nat.le_refl _) _)
    exact hbA.trans hb (fun g hg => by
      rcases List.mem_cons.1 hg with rfl | hg
      · exact .inr (Nat.le_refl _)
      · exact .inl hg)
  have hs' : ∀ k ∈ own', k ∈ own ∨ w.heap.size ≤ k := fun k hk => (hs k hk).imp id (fun h => by simp at h; omega)
  rcases open_pow hD.ok hd hp with ⟨D2, r, a, c, f, ho, hJ, hc, hl, hz, hcs⟩ | ⟨h6, hc⟩
  · left
    have hnot : w.heap.size ∉ own' := fun hm => by
      rcases hs _ hm with h | h
      · have := hD.lt _ h; omega
      · simp at h; omega
    rw [ho] at he d
    rw [if_pos rfl] at he
    refine ⟨D2, r, a, c, f, own', x, y, he, ho, hJ, d, ?_, hnot, hb', hs', hc, hl, hz, ?_⟩
    · rw [if_neg (by rw [hd]; decide)] at hj
      rcases hcs with ⟨h0, hn⟩ | ⟨h0, hst, hq, _⟩
      · rw [if_neg h0, hn] at hj
        exact hj
      · rw [if_pos h0, hst] at hj
        cases hq
        exact hj.1 rfl
    · intro h0 h1
      rcases hcs with ⟨hn0, hn⟩ | ⟨hn0, _, hq, hf0, hf1⟩
      · exfalso
        refine hn0 ?_
        unfold newestS
        rw [h0, h1, kept_nil]
        rfl
      · cases hq
        exact ⟨rfl, rfl, rfl, heavy_10, hf0, hf1⟩
  · right
    rw [h6, if_neg (by decide)] at he
    exact ⟨he, hc, own', x, y, d, hb', openS_cap D, hs'⟩
end Go.Proofs.YtocmfdahnekboaaDoor

/- journal.Append and Compact where there is room and power enough. -/
namespace Go.Proofs.YtocmfdahnekboaaDoor
open Go.RowKit SumM
set_option linter.unusedVariables false

theorem bods_taken {ks : List (Nat × List Nat)} (hk : ∀ x ∈ ks, okF x) (ht : takeK o0 ks = ks.length) (k : Nat) : bodF k (scanL (joinF ks) 0) = bodK k ks := by
  have := (scan_join0 ks [] (.inl rfl) hk).1
  rw [List.append_nil] at this
  rw [this]
  exact bodF_pos k ks 0 (take_rises ks o0 sane0 ht).1
/-- A region that counts and ends where its last frame does, as frames. -/
theorem clean_reg {l : List Nat} (hb : ∀ x ∈ l, x < 256) {a c f : Nat} (h : keptS l = (a, c, f)) (ha : a ≠ 0) (hf : l.length = f) :
    ∃ ks, l = joinF ks ∧ (∀ x ∈ ks, okF x) ∧ takeK o0 ks = ks.length ∧ (endK o0 ks).ready = true ∧ (endK o0 ks).age = a ∧ cntK 4 ks = c := by
  obtain ⟨h1, h2, ks, h3, h4, h5, h6, h7⟩ := kept_cut l hb (by rw [h]; exact ha)
  rw [h] at h3 h7
  have e : l.take f = l := List.take_of_length_le (by omega)
  rw [show (a, c, f).2.2 = f from rfl, e] at h3
  simp only [Prod.mk.injEq] at h7
  exact ⟨ks, h3, h4, h6, h5, h7.1.symm, h7.2.1.symm⟩
theorem cntK_append (k : Nat) (a b : List (Nat × List Nat)) : cntK k (a ++ b) = cntK k a + cntK k b := by unfold cntK; rw [List.filter_append, List.length_append]
/-- A record behind it. -/
theorem kept_snoc {l : List Nat} (hb : ∀ x ∈ l, x < 256) {a c f : Nat} (h : keptS l = (a, c, f)) (ha : a ≠ 0) (hf : l.length = f) (rec : List Nat) (hr : rec.length ≤ 4096) (hrb : ∀ x ∈ rec, x < 256) :
    keptS (l ++ frameL 4 rec) = (a, c + 1, f + (rec.length + 7)) ∧ snapL (l ++ frameL 4 rec) = snapL l ∧ recsL (l ++ frameL 4 rec) = recsL l ++ [rec] := by
  obtain ⟨ks, rfl, h4, h6, h5, h7, h8⟩ := clean_reg hb h ha hf
  have hok : okF (4, rec) := ⟨show (4 : Nat) ≠ 0 by decide, show (4 : Nat) < 256 by decide, hr, hrb⟩
  have hk' : ∀ x ∈ ks ++ [(4, rec)], okF x := fun x hx => by
    rcases List.mem_append.1 hx with h | h
    · exact h4 x h
    · simp at h; subst h; exact hok
  have hS := endK_sane ks o0 sane0
  obtain ⟨t1, t2⟩ := takeK_append ks [(4, rec)] o0 h6
  obtain ⟨u1, u2⟩ := takeK_recs hS h5 [rec]
  rw [show ([rec].map fun r => ((4, r) : Nat × List Nat)) = [(4, rec)] from rfl] at u1 u2
  rw [u1] at t1
  rw [u2] at t2
  have t1' : takeK o0 (ks ++ [(4, rec)]) = (ks ++ [(4, rec)]).length := by rw [t1, List.length_append]; rfl
  rw [← joinF_snoc ks (4, rec)]
  have hk := kept_join (ks ++ [(4, rec)]) [] hk' (.inl rfl)
  rw [List.append_nil, t2, if_pos h5, t1', List.take_length, h7, cntK_append, h8, joinF_snoc, List.length_append, frame_len, hf] at hk
  refine ⟨by rw [joinF_snoc]; exact hk, ?_, ?_⟩
  · unfold snapL
    rw [bods_taken hk' t1', bods_taken h4 h6, bodK_append]
    show ((bodK 2 ks) ++ []).flatten = _
    rw [List.append_nil]
  · unfold recsL
    rw [bods_taken hk' t1', bods_taken h4 h6, bodK_append]
    rfl
/-- What a region begins with. -/
theorem kept_begin {age : Nat} {snap : List Nat} (h0 : 0 < age) (ha : age < 18446744073709551616) (hs : ∀ x ∈ snap, x < 256) (hn : snap.length ≤ 1048576) :
    keptS (joinF (beginFs age snap)) = (age, 0, heavyN age snap.length) ∧ snapL (joinF (beginFs age snap)) = snap ∧ recsL (joinF (beginFs age snap)) = [] := by
  have hk := begin_ok age ha snap hs hn
  obtain ⟨e1, e2⟩ := begin_take (age := age) (snap := snap) h0 ha (by omega)
  have hj := kept_join (beginFs age snap) [] hk (.inl rfl)
  have hbk := reg_bods age snap []
  have hr : regL age snap [] = beginFs age snap := by unfold regL; simp
  rw [hr] at hbk
  rw [List.append_nil, e2, if_pos rfl, e1, List.take_length, begin_length, hbk.2.2] at hj
  refine ⟨hj, ?_, ?_⟩
  · unfold snapL
    rw [bods_taken hk e1, hbk.1, chunksL_flat]
  · unfold recsL
    rw [bods_taken hk e1, hbk.2.1]
theorem newest_same {D D2 : DevS} {r a c f c2 f2 : Nat} (h : JOk D r a c f) (hk : keptS (D2.row (r : Nat)) = (a, c2, f2)) (ho : D2.row ((1 - (r : Nat) : Int)) = D.row (1 - (r : Nat) : Int)) : newestS D2 = (r, (a, c2, f2)) := by
  have hn := h.new
  have hkD := h.kept
  rcases h.reg with rfl | rfl
  · have e0 : keptS D2.r0 = (a, c2, f2) := hk
    have e1 : D2.r1 = D.r1 := ho
    have e2 : keptS D.r0 = (a, c, f) := hkD
    unfold newestS at hn ⊢
    by_cases hlt : (keptS D.r0).1 < (keptS D.r1).1
    · rw [if_pos hlt] at hn; simp at hn
    · rw [e0, e1, if_neg (by rw [e2] at hlt; exact hlt)]
  · have e0 : keptS D2.r1 = (a, c2, f2) := hk
    have e1 : D2.r0 = D.r0 := ho
    have e2 : keptS D.r1 = (a, c, f) := hkD
    unfold newestS at hn ⊢
    by_cases hlt : (keptS D.r0).1 < (keptS D.r1).1
    · rw [e0, e1, if_pos (by rw [e2] at hlt; exact hlt)]
    · rw [if_neg hlt] at hn; simp at hn
theorem put_other {D : DevS} {r : Nat} (hr : r = 0 ∨ r = 1) (l : List Nat) : (D.put (r : Nat) l).row (1 - (r : Nat) : Int) = D.row (1 - (r : Nat) : Int) := by rcases hr with rfl | rfl <;> rfl
theorem put_len {D : DevS} {r : Nat} (hr : r = 0 ∨ r = 1) (l : List Nat) : (D.put (r : Nat) l).r0.length + (D.put (r : Nat) l).r1.length + (D.row (r : Nat)).length = D.r0.length + D.r1.length + l.length := by
  rcases hr with rfl | rfl
  · show l.length + D.r1.length + D.r0.length = _; omega
  · show D.r0.length + l.length + D.r1.length = _; omega
/-- What is said of a journal behind a record more. -/
structure AppOk (D D2 : DevS) (r : Nat) (rec : List Nat) : Prop where
  row : D2.row (r : Nat) = D.row (r : Nat) ++ frameL 4 rec
  other : D2.row (1 - (r : Nat) : Int) = D.row (1 - (r : Nat) : Int)
  cap : D2.cap = D.cap
  left : D2.left + (rec.length + 7) = D.left
  snap : snapL (D2.row (r : Nat)) = snapL (D.row (r : Nat))
  recs : recsL (D2.row (r : Nat)) = recsL (D.row (r : Nat)) ++ [rec]
theorem app_ok {D : DevS} {r a c f : Nat} (ok : D.Ok) (h : JOk D r a c f) (rec : List Nat) (hr : rec.length ≤ 4096) (hrb : ∀ x ∈ rec, x < 256) (hfit : f + (rec.length + 7) ≤ D.cap) (hp : rec.length + 7 ≤ D.left) :
    (appS D (r : Nat) (frameL 4 rec)).2 = 0 ∧ JOk (appS D (r : Nat) (frameL 4 rec)).1 r a (c + 1) (f + (rec.length + 7)) ∧ AppOk D (appS D (r : Nat) (frameL 4 rec)).1 r rec := by
  have hfl := frame_len 4 rec
  have e1 : appS D (r : Nat) (frameL 4 rec) = ((D.turn (rec.length + 7)).put (r : Nat) (D.row (r : Nat) ++ frameL 4 rec), 0) := by
    rw [appS_fit h.down h.regB (by rw [h.fin, hfl]; omega), addS_pow (by rw [hfl]; omega), hfl]
  obtain ⟨k1, k2, k3⟩ := kept_snoc (ok.row (r : Nat)).2 h.kept h.age h.fin rec hr hrb
  rw [e1]
  have hrow : ((D.turn (rec.length + 7)).put (r : Nat) (D.row (r : Nat) ++ frameL 4 rec)).row (r : Nat) = D.row (r : Nat) ++ frameL 4 rec := put_row h.regB
  have hoth : ((D.turn (rec.length + 7)).put (r : Nat) (D.row (r : Nat) ++ frameL 4 rec)).row (1 - (r : Nat) : Int) = D.row (1 - (r : Nat) : Int) := put_other h.reg _
  refine ⟨rfl, ⟨newest_same h (by rw [hrow]; exact k1) hoth, h.age, ?_, h.reg, ?_⟩, ⟨hrow, hoth, put_cap _ _ _, ?_, ?_, ?_⟩⟩
  · rw [hrow, List.length_append, hfl, h.fin]
  · rw [put_down]; exact turn_down h.down hp
  · rw [put_left, turn_left hp]; omega
  · rw [hrow, k2]
  · rw [hrow, k3]
/-- What is said of a journal behind a compaction. -/
structure CompOk (D D2 : DevS) (r : Nat) (a : Nat) (snap : List Nat) : Prop where
  row : D2.row (1 - (r : Nat) : Int) = joinF (beginFs (a + 1) snap)
  other : D2.row (r : Nat) = D.row (r : Nat)
  cap : D2.cap = D.cap
  left : D2.left + (heavyN (a + 1) snap.length + (D.row (1 - (r : Nat) : Int)).length) = D.left
  snap : snapL (D2.row (1 - (r : Nat) : Int)) = snap
  recs : recsL (D2.row (1 - (r : Nat) : Int)) = []
theorem comp_ok {D : DevS} {r a c f : Nat} (ok : D.Ok) (h : JOk D r a c f) (snap : List Nat) (hs : Bytes snap) (ha : a < 18446744073709551615) (hfit : heavyN (a + 1) snap.length ≤ D.cap) (hp : heavyN (a + 1) snap.length + (D.row (1 - (r : Nat) : Int)).length ≤ D.left) :
    (compS D (r : Nat) a snap).2 = 0 ∧ JOk (compS D (r : Nat) a snap).1 (1 - r) (a + 1) 0 (heavyN (a + 1) snap.length) ∧ CompOk D (compS D (r : Nat) a snap).1 r a snap := by
  have hri : ((1 : Int) - (r : Nat)) = ((1 - r : Nat) : Int) := by rcases h.reg with rfl | rfl <;> rfl
  have hrB : regB ((1 : Int) - (r : Nat)) = true := by rcases h.reg with rfl | rfl <;> rfl
  have ht := truncS_pow (D := D) (i := (1 : Int) - (r : Nat)) (n := 0) h.down hrB (Nat.zero_le _) (by omega)
  rw [Nat.sub_zero, List.take_zero] at ht
  obtain ⟨E, hE⟩ : ∃ E, (D.turn (D.row ((1 : Int) - (r : Nat))).length).put ((1 : Int) - (r : Nat)) [] = E := ⟨_, rfl⟩
  rw [hE] at ht
  have hEd : E.down = false := by rw [← hE, put_down]; exact turn_down h.down (by omega)
  have hEl : E.left = D.left - (D.row ((1 : Int) - (r : Nat))).length := by rw [← hE, put_left]; exact turn_left (by omega)
  have hEc : E.cap = D.cap := by rw [← hE]; exact put_cap _ _ _
  have hEr : E.row ((1 : Int) - (r : Nat)) = [] := by rw [← hE]; exact put_row hrB
  have hEo : E.row (r : Nat) = D.row (r : Nat) := by rw [← hE]; rcases h.reg with rfl | rfl <;> rfl
  have e1 : compS D (r : Nat) a snap = ((E.turn (heavyN (a + 1) snap.length)).put ((1 : Int) - (r : Nat)) (joinF (beginFs (a + 1) snap)), 0) := by
    have ht' : truncS D ((1 : Int) - (r : Nat)) 0 = (E, 0) := ht
    unfold compS
    rw [if_neg (by omega), if_neg (by omega), ht', if_neg (fun h => h rfl)]
    show appsS E _ _ = _
    rw [appsS_fit hrB _ _ hEd (by rw [hEr, hEc, begin_length]; simpa using hfit) (by simp [beginFs]), addS_pow (by rw [begin_length, hEl]; omega), hEr, begin_length, List.nil_append]
  obtain ⟨k1, k2, k3⟩ := kept_begin (age := a + 1) (snap := snap) (by omega) (by omega) hs.2 hs.1
  rw [e1]
  obtain ⟨D2, hD2⟩ : ∃ D2, (E.turn (heavyN (a + 1) snap.length)).put ((1 : Int) - (r : Nat)) (joinF (beginFs (a + 1) snap)) = D2 := ⟨_, rfl⟩
  have hrow : D2.row ((1 : Int) - (r : Nat)) = joinF (beginFs (a + 1) snap) := by rw [← hD2]; exact put_row hrB
  have hoth : D2.row (r : Nat) = D.row (r : Nat) := by
    rw [← hD2, ← hEo]
    rcases h.reg with rfl | rfl <;> rfl
  rw [hD2]
  have hkD := h.kept
  refine ⟨rfl, ⟨?_, by omega, ?_, by rcases h.reg with rfl | rfl; exact .inr rfl; exact .inl rfl, ?_⟩, ⟨hrow, hoth, ?_, ?_, ?_, ?_⟩⟩
  · rcases h.reg with rfl | rfl
    · have f1 : D2.r1 = joinF (beginFs (a + 1) snap) := hrow
      have f0 : D2.r0 = D.r0 := hoth
      have f2 : keptS D.r0 = (a, c, f) := hkD
      unfold newestS
      rw [f1, f0, k1, f2, if_pos (by show a < a + 1; omega)]
    · have f1 : D2.r0 = joinF (beginFs (a + 1) snap) := hrow
      have f0 : D2.r1 = D.r1 := hoth
      have f2 : keptS D.r1 = (a, c, f) := hkD
      unfold newestS
      rw [f1, f0, k1, f2, if_neg (by show ¬ a + 1 < a; omega)]
  · rw [← hri, hrow, begin_length]
  · rw [← hD2, put_down]; exact turn_down hEd (by omega)
  · rw [← hD2, put_cap]; exact hEc
  · rw [← hD2, put_left, turn_left (by omega), hEl]; omega
  · rw [hrow, k2]
  · rw [hrow, k3]
end Go.Proofs.YtocmfdahnekboaaDoor

/- A journal on its device, with power enough, as the laws call it. -/
namespace Go.Proofs.YtocmfdahnekboaaDoor
open Go.RowKit SumM
set_option linter.unusedVariables false

/-- A journal at jb on the device at b, both made since w. -/
structure St (w W : World) (own : List Nat) (jb b : Nat) (D : DevS) (r a c f : Nat) : Prop where
  dev : ∃ x y, Dev own W b D x y
  jrn : JrnAt W jb b (r : Nat) a c f
  jo : jb ∉ own
  ok : JOk D r a c f
  lo : ∀ k ∈ own, w.heap.size ≤ k
  jl : w.heap.size ≤ jb
  bel : Below w.heap.size w W
theorem St.below {w W W' : World} {own : List Nat} {jb b : Nat} {D : DevS} {r a c f : Nat} (h : St w W own jb b D r a c f) (hb : Below W.heap.size W W') : St w W' own jb b D r a c f := by
  obtain ⟨x, y, d⟩ := h.dev
  exact ⟨⟨x, y, d.below hb⟩, (hb.block jb h.jrn.lt).trans h.jrn, h.jo, h.ok, h.lo, h.jl, h.bel.trans (hb.mono h.bel.size)⟩
/-- What turns none of its blocks leaves it as it was. -/
theorem St.but {w W W' : World} {own own2 : List Nat} {jb b : Nat} {D : DevS} {r a c f : Nat} (h : St w W own jb b D r a c f) (hb : But own2 W W') (h1 : ∀ k ∈ own, k ∉ own2) (h2 : jb ∉ own2) (h3 : ∀ k ∈ own2, w.heap.size ≤ k) : St w W' own jb b D r a c f := by
  obtain ⟨x, y, d⟩ := h.dev
  exact ⟨⟨x, y, d.but hb h1⟩, h.jrn.but hb h2, h.jo, h.ok, h.lo, h.jl, h.bel.trans (hb.below h3 h.bel.size)⟩
theorem St.dok {w W : World} {own : List Nat} {jb b : Nat} {D : DevS} {r a c f : Nat} (h : St w W own jb b D r a c f) : D.Ok := by obtain ⟨x, y, d⟩ := h.dev; exact d.ok
theorem cnt_le {D : DevS} {r a c f : Nat} (ok : D.Ok) (h : JOk D r a c f) : c ≤ 1048576 ∧ f ≤ 1048576 ∧ f ≤ D.cap := by
  obtain ⟨ks, e, _, _, _, _, hc⟩ := clean_reg (ok.row (r : Nat)).2 h.kept h.age h.fin
  have h1 := (ok.row (r : Nat)).1
  have h2 := ok.cap
  have h3 : c ≤ ks.length := by rw [← hc]; unfold cntK; exact List.length_filter_le _ _
  have h4 := joinF_length ks
  rw [← e] at h4
  have h5 := h.fin
  omega
theorem lo_more {w W : World} {own own' : List Nat} (hb : Below w.heap.size w W) (hl : ∀ k ∈ own, w.heap.size ≤ k) (hs : ∀ k ∈ own', k ∈ own ∨ W.heap.size ≤ k) : ∀ k ∈ own', w.heap.size ≤ k := fun k hk => by
  rcases hs k hk with h | h
  · exact hl k h
  · exact Nat.le_trans hb.size h

theorem append_st {w W : World} {own : List Nat} {jb b : Nat} {D : DevS} {r a c f : Nat} (h : St w W own jb b D r a c f) (pa : Option Addr) (pc : Nat) (rec : List Nat) (hl : Bytes rec) (h4 : rec.length ≤ 4096) (hS : Sl encY W.heap.size W (.slice pa rec.length pc) rec) (hfit : f + (rec.length + 7) ≤ D.cap) (hp : rec.length + 7 ≤ D.left) :
    Calls Tryd.prog 13 #[.pointer (some ⟨jb, 0, none⟩), .slice pa rec.length pc] W fun e W' => e = .returned (.int .i64 0) ∧ ∃ own' D2, St w W' own' jb b D2 r a (c + 1) (f + (rec.length + 7)) ∧ AppOk D D2 r rec ∧ But (jb :: own) W W' ∧ ∀ k ∈ own', k ∈ own ∨ W.heap.size ≤ k := by
  obtain ⟨x, y, d⟩ := h.dev
  obtain ⟨e1, e2, e3⟩ := app_ok d.ok h.ok rec h4 hl.2 hfit hp
  refine (append_go pa pc rec hl h4 W d h.jrn h.jo hS h.ok.fin (cnt_le d.ok h.ok).1).mono ?_
  rintro e W' ⟨he, own', x', y', d', hb, hs, hj, _⟩
  rw [e1] at he
  refine ⟨he, own', _, ⟨⟨x', y', d'⟩, hj e1, fun hm => ?_, e2, lo_more h.bel h.lo hs, h.jl, h.bel.trans (hb.below (fun k hk => ?_) h.bel.size)⟩, e3, hb, hs⟩
  · rcases hs jb hm with h2 | h2
    · exact h.jo h2
    · have := h.jrn.lt; omega
  · rcases List.mem_cons.1 hk with rfl | hk
    · exact h.jl
    · exact h.lo k hk
/-- A record that has no room. -/
theorem append_full {w W : World} {own : List Nat} {jb b : Nat} {D : DevS} {r a c f : Nat} (h : St w W own jb b D r a c f) (pa : Option Addr) (pc : Nat) (rec : List Nat) (hl : Bytes rec) (h4 : rec.length ≤ 4096) (hS : Sl encY W.heap.size W (.slice pa rec.length pc) rec) (hfit : D.cap < f + (rec.length + 7)) :
    Calls Tryd.prog 13 #[.pointer (some ⟨jb, 0, none⟩), .slice pa rec.length pc] W fun e W' => e = .returned (.int .i64 6) ∧ ∃ own', St w W' own' jb b D r a c f ∧ But (jb :: own) W W' ∧ ∀ k ∈ own', k ∈ own ∨ W.heap.size ≤ k := by
  obtain ⟨x, y, d⟩ := h.dev
  have hrl := (d.ok.row (r : Nat)).1
  have e1 : appS D (r : Nat) (frameL 4 rec) = (D, 6) := appS_full h.ok.down h.ok.regB (by rw [h.ok.fin, frame_len]; omega) hrl
  refine (append_go pa pc rec hl h4 W d h.jrn h.jo hS h.ok.fin (cnt_le d.ok h.ok).1).mono ?_
  rintro e W' ⟨he, own', x', y', d', hb, hs, _, hj⟩
  rw [e1] at he d' hj
  refine ⟨he, own', ⟨⟨x', y', d'⟩, hj (by show (6 : Int) ≠ 0; decide), fun hm => ?_, h.ok, lo_more h.bel h.lo hs, h.jl, h.bel.trans (hb.below (fun k hk => ?_) h.bel.size)⟩, hb, hs⟩
  · rcases hs jb hm with h2 | h2
    · exact h.jo h2
    · have := h.jrn.lt; omega
  · rcases List.mem_cons.1 hk with rfl | hk
    · exact h.jl
    · exact h.lo k hk
theorem compact_st {w W : World} {own : List Nat} {jb b : Nat} {D : DevS} {r a c f : Nat} (h : St w W own jb b D r a c f) (pa : Option Addr) (pc : Nat) (snap : List Nat) (hl : Bytes snap) (hS : Sl encY W.heap.size W (.slice pa snap.length pc) snap) (ho : Off own (.slice pa snap.length pc)) (ha : a < 18446744073709551615) (hfit : heavyN (a + 1) snap.length ≤ D.cap) (hp : heavyN (a + 1) snap.length + (D.row (1 - (r : Nat) : Int)).length ≤ D.left) :
    Calls Tryd.prog 17 #[.pointer (some ⟨jb, 0, none⟩), .slice pa snap.length pc] W fun e W' => e = .returned (.int .i64 0) ∧ ∃ own' D2, St w W' own' jb b D2 (1 - r) (a + 1) 0 (heavyN (a + 1) snap.length) ∧ CompOk D D2 r a snap ∧ But (jb :: own) W W' ∧ ∀ k ∈ own', k ∈ own ∨ W.heap.size ≤ k := by
  obtain ⟨x, y, d⟩ := h.dev
  obtain ⟨e1, e2, e3⟩ := comp_ok d.ok h.ok snap hl ha hfit hp
  have hri : ((1 : Int) - (r : Nat)) = ((1 - r : Nat) : Int) := by rcases h.ok.reg with rfl | rfl <;> rfl
  refine (compact_go pa pc snap hl W d h.jrn h.jo (by rcases h.ok.reg with rfl | rfl <;> decide) hS ho ha).mono ?_
  rintro e W' ⟨he, own', x', y', d', hb, hs, hj, _⟩
  rw [e1] at he
  refine ⟨he, own', _, ⟨⟨x', y', d'⟩, by rw [← hri]; exact hj e1, fun hm => ?_, e2, lo_more h.bel h.lo hs, h.jl, h.bel.trans (hb.below (fun k hk => ?_) h.bel.size)⟩, e3, hb, hs⟩
  · rcases hs jb hm with h2 | h2
    · exact h.jo h2
    · have := h.jrn.lt; omega
  · rcases List.mem_cons.1 hk with rfl | hk
    · exact h.jl
    · exact h.lo k hk
/-- Opened once more. -/
theorem reopen_st {w W : World} {own : List Nat} {jb b : Nat} {D : DevS} {r a c f : Nat} (h : St w W own jb b D r a c f) :
    Calls Tryd.prog 10 #[.pointer (some ⟨b, 0, none⟩)] W fun e W' => e = .returned (.tuple #[.pointer (some ⟨W.heap.size, 0, none⟩), .int .i64 0]) ∧ ∃ own', St w W' own' W.heap.size b D r a c f ∧ But own W W' ∧ (∀ k ∈ own', k ∈ own ∨ W.heap.size ≤ k) ∧ JrnAt W' jb b (r : Nat) a c f ∧ jb ∉ own' := by
  obtain ⟨x, y, d⟩ := h.dev
  have hag := h.ok.again d.ok.tn
  refine (opens_any W d).mono ?_
  rintro e W' ⟨he, e', h1, own', x', y', d', hb, hs, hj⟩
  rw [hag] at he d'
  rw [if_pos rfl] at he
  rw [h.ok.down, if_neg (by decide), h.ok.new, if_neg (show ¬ a = 0 from h.ok.age)] at hj
  have hb' : But own W W' := by
    have hbA : But own W (W.alloc (.cells #[.pointer (some ⟨b, 0, none⟩), .int .i64 0, .int .u64 0, .int .i64 0, .int .i64 0] 71)) := But.of_below ((Below.refl _ _).alloc (Nat.le_refl _) _)
    exact hbA.trans hb (fun g hg => by
      rcases List.mem_cons.1 hg with rfl | hg
      · exact .inr (Nat.le_refl _)
      · exact .inl hg)
  have hs' : ∀ k ∈ own', k ∈ own ∨ W.heap.size ≤ k := fun k hk => (hs k hk).imp id (fun h => by simp at h; omega)
  refine ⟨he, own', ⟨⟨x', y', d'⟩, hj, fun hm => ?_, h.ok, lo_more h.bel h.lo hs', h.bel.size, h.bel.trans (hb'.below h.lo h.bel.size)⟩, hb', hs', h.jrn.but hb' h.jo, fun hm => ?_⟩
  · rcases hs _ hm with h | h
    · have := d.lt _ h; omega
    · simp at h; omega
  · rcases hs' jb hm with h2 | h2
    · exact h.jo h2
    · have := h.jrn.lt; omega
/-- A journal on a device that was just made. -/
theorem new_st {w W : World} {b : Nat} {D : DevS} {own : List Nat} {x y : Value} (hb : Below w.heap.size w W) (d : Dev own W b D x y) (hlo : ∀ k ∈ own, w.heap.size ≤ k) (hd : D.down = false) (h0 : D.r0 = []) (h1 : D.r1 = []) (hp : 16 ≤ D.left) :
    Calls Tryd.prog 10 #[.pointer (some ⟨b, 0, none⟩)] W fun e W' => (16 ≤ D.cap ∧ e = .returned (.tuple #[.pointer (some ⟨W.heap.size, 0, none⟩), .int .i64 0]) ∧ ∃ own' D2, St w W' own' W.heap.size b D2 0 1 0 16 ∧ D2.r0 = freshL ∧ D2.r1 = [] ∧ D2.cap = D.cap ∧ D.left ≤ D2.left + 16) ∨
      (D.cap < 16 ∧ e = .returned (.tuple #[.pointer none, .int .i64 6]) ∧ Below w.heap.size w W' ∧ ∃ own' x y, Dev own' W' b (openS D).1 x y ∧ (openS D).1.cap = D.cap) := by
  refine (opened_any W d hd (by rw [h0, h1]; simpa using hp)).mono ?_
  rintro e W' (⟨D2, r, a, c, f, own', x', y', he, ho, hJ, d', hj, hnot, hb2, hs, hcap, hleft, _, hnew⟩ | ⟨he, hc, own', x', y', d', hb2, hcap, hs⟩)
  · left
    obtain ⟨rfl, rfl, rfl, rfl, f0, f1⟩ := hnew h0 h1
    rw [h0, h1] at hleft
    have h16 : 16 ≤ D.cap := by
      have h3 := (d'.ok.row 0).1
      rw [show D2.row 0 = D2.r0 from rfl, f0, fresh_len] at h3
      omega
    exact ⟨h16, he, own', D2, ⟨⟨x', y', d'⟩, hj, hnot, hJ, lo_more hb hlo hs, hb.size, hb.trans (hb2.below hlo hb.size)⟩, f0, f1, hcap, by simpa using hleft⟩
  · exact .inr ⟨hc, he, hb.trans (hb2.below hlo hb.size), own', x', y', d', hcap⟩
theorem room_st {w W : World} {own : List Nat} {jb b : Nat} {D : DevS} {r a c f : Nat} (h : St w W own jb b D r a c f) :
    Calls Tryd.prog 16 #[.pointer (some ⟨jb, 0, none⟩)] W fun e W' => e = .returned (.int .i64 ((D.cap : Int) - (f : Nat))) ∧ Below W.heap.size W W' := by
  obtain ⟨x, y, d⟩ := h.dev
  have := room_any W d h.jrn
  rw [h.ok.fin] at this
  exact this
end Go.Proofs.YtocmfdahnekboaaDoor
