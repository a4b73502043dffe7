/- A table in memory: nodes by int64 of int64; what reads them. -/
import Derived.Test.YtchnjafcnigllaaTabM
import Derived.Test.YtchnjafcnigllaaTabF
import Derived.Lib.Strings
import Derived.Test.YtchnjafcnigllaaBut
import Derived.IntWalk
import Derived.LoopTactic
import Derived.Outline
import Derived.RegionTactic
import Derived.BigRegion
import Derived.Laws.Rows
import Derived.BigQuiet
import Derived.Deep.RegionHeld3
import Derived.Deep.DeepCutAuto
import Derived.Deep.QuietTactic
namespace Go.Proofs.Ytchnjafcnigllaa.TK
open Go.RowKit
set_option linter.unusedVariables false

abbrev TrN := Tr ByteArray Int
def ltN : ByteArray → ByteArray → Bool := fun a b => Op.bytesLess a.toList b.toList
theorem bl_irr : ∀ x : List UInt8, Op.bytesLess x x = false
  | [] => rfl
  | a :: x => by simp [Op.bytesLess, bl_irr x]
theorem bl_trans : ∀ x y z : List UInt8, Op.bytesLess x y = true → Op.bytesLess y z = true → Op.bytesLess x z = true
  | [], [], _, h, _ => by simp [Op.bytesLess] at h
  | [], _ :: _, [], _, h => by simp [Op.bytesLess] at h
  | [], _ :: _, _ :: _, _, _ => rfl
  | _ :: _, [], _, h, _ => by simp [Op.bytesLess] at h
  | _ :: _, _ :: _, [], _, h => by simp [Op.bytesLess] at h
  | a :: x, b :: y, c :: z, h1, h2 => by
    have ih := bl_trans x y z
    simp only [Op.bytesLess, Bool.or_eq_true, Bool.and_eq_true, decide_eq_true_eq, beq_iff_eq] at h1 h2 ⊢
    rcases h1 with h1 | ⟨rfl, h1⟩
    · rcases h2 with h2 | ⟨rfl, h2⟩
      · exact .inl (UInt8.lt_trans h1 h2)
      · exact .inl h1
    · rcases h2 with h2 | ⟨rfl, h2⟩
      · exact .inl h2
      · exact .inr ⟨rfl, ih h1 h2⟩
theorem bl_total : ∀ x y : List UInt8, x ≠ y → Op.bytesLess x y = false → Op.bytesLess y x = true
  | [], [], h, _ => (h rfl).elim
  | [], _ :: _, _, h => by simp [Op.bytesLess] at h
  | _ :: _, [], _, _ => rfl
  | a :: x, b :: y, h, h1 => by
    have ih := bl_total x y
    simp only [Op.bytesLess, Bool.or_eq_false_iff, Bool.and_eq_false_iff, decide_eq_false_iff_not] at h1
    simp only [Op.bytesLess, Bool.or_eq_true, Bool.and_eq_true, decide_eq_true_eq, beq_iff_eq]
    obtain ⟨h2, h3⟩ := h1
    by_cases hab : a = b
    · subst hab
      refine .inr ⟨rfl, ih (fun e => h (by rw [e])) ?_⟩
      rcases h3 with h3 | h3
      · simp at h3
      · exact h3
    · exact .inl (UInt8.lt_of_le_of_ne (UInt8.not_lt.1 h2) (fun e => hab e.symm))
theorem bytes_ext {a b : ByteArray} (h : a.toList = b.toList) : a = b := by
  rw [ByteArray.toList_eq, ByteArray.toList_eq] at h
  cases a; cases b
  simp only [ByteArray.mk.injEq]
  exact Array.toList_inj.1 h
theorem ordN : Tr.Order ltN := ⟨fun a => bl_irr _, fun a b c => bl_trans _ _ _, fun a b hne h => bl_total _ _ (fun e => hne (bytes_ext e)) h⟩
theorem lt_tri (k a : ByteArray) : ltN k a = true ∨ k = a ∨ ltN a k = true := by
  by_cases h : k = a
  · exact .inr (.inl h)
  · cases h2 : ltN k a with
    | true => exact .inl rfl
    | false => exact .inr (.inr (ordN.total _ _ h h2))
/-- The tree at a pointer: nodes that are never turned. -/
def AtN (W : World) : TrN → Value → Prop
  | .nil, p => p = .pointer none
  | .node k v l r, p => ∃ b lv rv, p = .pointer (some ⟨b, 0, none⟩) ∧ W.heap[b]? = some (.cells #[.string k, .int .i64 v, .int .i64 ((l.size + r.size + 1 : Nat) : Int), lv, rv] 91 (0, 0)) ∧ AtN W l lv ∧ AtN W r rv
/-- All blocks of nodes stay. -/
def StayN (W W' : World) : Prop := ∀ (b : Nat) (cs : Array Value), W.heap[b]? = some (.cells cs 91 (0, 0)) → W'.heap[b]? = some (.cells cs 91 (0, 0))
theorem AtN.stay {W W' : World} (h : StayN W W') : ∀ (t : TrN) (p : Value), AtN W t p → AtN W' t p
  | .nil, p, e => e
  | .node k v l r, p, ⟨b, lv, rv, e, hb, hl, hr⟩ => ⟨b, lv, rv, e, h b _ hb, AtN.stay h l lv hl, AtN.stay h r rv hr⟩
theorem StayN.of_below {W W' : World} (h : Below W.heap.size W W') : StayN W W' := fun b cs hb => (h.block b (Array.getElem?_eq_some_iff.1 hb).1).trans hb
theorem StayN.trans {A B C : World} (h : StayN A B) (h' : StayN B C) : StayN A C := fun b cs hb => h' b cs (h b cs hb)
theorem AtN.below {W W' : World} {t : TrN} {p : Value} (h : AtN W t p) (hb : Below W.heap.size W W') : AtN W' t p := AtN.stay (StayN.of_below hb) t p h
theorem AtN.form {W : World} {t : TrN} {p : Value} (h : AtN W t p) : ∃ a, p = .pointer a := by
  cases t with
  | nil => exact ⟨none, h⟩
  | node k v l r => obtain ⟨b, _, _, e, _⟩ := h; exact ⟨_, e⟩
theorem AtN.cells {W : World} {k : ByteArray} {v : Int} {l r : TrN} {p : Value} (h : AtN W (.node k v l r) p) : ∃ b la ra, p = .pointer (some ⟨b, 0, none⟩) ∧ W.heap[b]? = some (.cells #[.string k, .int .i64 v, .int .i64 ((l.size + r.size + 1 : Nat) : Int), .pointer la, .pointer ra] 91 (0, 0)) ∧ AtN W l (.pointer la) ∧ AtN W r (.pointer ra) ∧
    W.cell? ⟨b, 0, none⟩ = some (.string k) ∧ W.cell? ⟨b, 1, none⟩ = some (.int .i64 v) ∧ W.cell? ⟨b, 2, none⟩ = some (.int .i64 ((l.size + r.size + 1 : Nat) : Int)) ∧ W.cell? ⟨b, 3, none⟩ = some (.pointer la) ∧ W.cell? ⟨b, 4, none⟩ = some (.pointer ra) := by
  obtain ⟨b, lv, rv, e, hb, hl, hr⟩ := h
  obtain ⟨la, rfl⟩ := hl.form
  obtain ⟨ra, rfl⟩ := hr.form
  exact ⟨b, la, ra, e, hb, hl, hr, cell_of_row W b 0 _ _ _ hb, cell_of_row W b 1 _ _ _ hb, cell_of_row W b 2 _ _ _ hb, cell_of_row W b 3 _ _ _ hb, cell_of_row W b 4 _ _ _ hb⟩

theorem nanN (x : ByteArray) (w : World) : Calls Try.prog 83 #[.string x] w fun e w' => e = .returned (.bool false) ∧ w' = w := by
  go_enter Try.func83, Try.ntmps83
  go_wp2
  go_ret
  exact ⟨by simp, rfl⟩
set_option maxHeartbeats 1000000 in
theorem lessN (x y : ByteArray) (w : World) : Calls Try.prog 84 #[.string x, .string y] w fun e w' => e = .returned (.bool (ltN x y)) ∧ w' = w := by
  unfold ltN
  go_enter Try.func84, Try.ntmps84
  go_wp2_with (go_at_call 83; refine (nanN _ _).mono ?_; rintro e w' ⟨rfl, rfl⟩)
  go_ret
  exact ⟨rfl, rfl⟩
/-- What cmp.Compare answers. -/
def cmpN (x y : ByteArray) : Int := if ltN x y = true then -1 else if ltN y x = true then 1 else 0
theorem cmp_eq (k : ByteArray) : cmpN k k = 0 := by unfold cmpN; simp [ordN.irr k]
theorem cmp_lt {k a : ByteArray} (h : ltN k a = true) : cmpN k a = -1 := if_pos h
theorem cmp_gt {k a : ByteArray} (h : ltN a k = true) : cmpN k a = 1 := by unfold cmpN; rw [if_neg (by rw [Tr.asym ordN h]; decide), if_pos h]
set_option maxHeartbeats 1000000 in
theorem compareN (x y : ByteArray) (w : World) : Calls Try.prog 73 #[.string x, .string y] w fun e w' => e = .returned (.int .i64 (cmpN x y)) ∧ w' = w := by
  rcases lt_tri x y with h | h | h
  · rw [cmp_lt h]
    have d1 : Op.bytesLess x.toList y.toList = true := h
    go_enter Try.func73, Try.ntmps73
    go_wp2_with (go_at_call 83; refine (nanN _ _).mono ?_; rintro e w' ⟨rfl, rfl⟩)
    go_ret
    exact ⟨rfl, rfl⟩
  · subst h
    rw [cmp_eq]
    have d1 : Op.bytesLess x.toList x.toList = false := bl_irr _
    go_enter Try.func73, Try.ntmps73
    go_wp2_with (go_at_call 83; refine (nanN _ _).mono ?_; rintro e w' ⟨rfl, rfl⟩)
    go_ret
    exact ⟨rfl, rfl⟩
  · rw [cmp_gt h]
    have d1 : Op.bytesLess x.toList y.toList = false := Tr.asym ordN h
    have d2 : (x.toList == y.toList) = false := by
      cases e : (x.toList == y.toList) with
      | false => rfl
      | true =>
        have e2 := bytes_ext (eq_of_beq e)
        exact (Tr.ne_of ordN h e2.symm).elim
    go_enter Try.func73, Try.ntmps73
    go_wp2_with (go_at_call 83; refine (nanN _ _).mono ?_; rintro e w' ⟨rfl, rfl⟩)
    go_ret
    exact ⟨rfl, rfl⟩
theorem tlenN (t : TrN) (p : Value) (w : World) (h : AtN w t p) : Calls Try.prog 60 #[p] w fun e w' => e = .returned (.int .i64 t.size) ∧ w' = w := by
  cases t with
  | nil =>
    obtain rfl := h
    go_enter Try.func60, Try.ntmps60
    go_wp2
    go_ret
    exact ⟨rfl, rfl⟩
  | node k v l r =>
    obtain ⟨b, la, ra, rfl, hb, _, _, c0, c1, c2, c3, c4⟩ := h.cells
    show Calls _ _ _ w fun e w' => e = .returned (.int .i64 ((l.size + r.size + 1 : Nat) : Int)) ∧ w' = w
    obtain ⟨n, hn⟩ : ∃ n, l.size + r.size + 1 = n := ⟨_, rfl⟩
    rw [hn] at c2 ⊢
    clear h hb hn
    go_enter Try.func60, Try.ntmps60
    go_wp2
    go_ret
    exact ⟨rfl, rfl⟩
theorem sideN (k a : ByteArray) (v : Int) (l r : TrN) (p : Value) (w : World) (h : AtN w (.node a v l r) p) : Calls Try.prog 75 #[p, .string k] w fun e w' => e = .returned (.int .i64 (if ltN k a then 0 else 1)) ∧ w' = w := by
  obtain ⟨b, la, ra, rfl, hb, _, _, c0, c1, c2, c3, c4⟩ := h.cells
  clear h hb
  cases hk : ltN k a with
  | true =>
    have HL := Lib.hid (lessN k a w)
    rw [hk] at HL
    go_enter Try.func75, Try.ntmps75
    go_wp2_with (go_at_call 84; refine HL.out.mono ?_; rintro e w' ⟨rfl, rfl⟩)
    go_ret
    exact ⟨rfl, rfl⟩
  | false =>
    have HL := Lib.hid (lessN k a w)
    rw [hk] at HL
    go_enter Try.func75, Try.ntmps75
    go_wp2_with (go_at_call 84; refine HL.out.mono ?_; rintro e w' ⟨rfl, rfl⟩)
    go_ret
    exact ⟨rfl, rfl⟩
end Go.Proofs.Ytchnjafcnigllaa.TK
