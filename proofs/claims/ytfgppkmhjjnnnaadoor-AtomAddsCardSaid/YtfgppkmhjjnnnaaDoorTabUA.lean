/- A table in memory: nodes by int64 of int64; what reads them. -/
import Derived.Test.YtfgppkmhjjnnnaaDoorTabM
import Derived.Test.YtfgppkmhjjnnnaaDoorBut
import Derived.IntWalk
import Derived.LoopTactic
import Derived.Outline
import Derived.RegionTactic
import Derived.BigRegion
import Derived.Laws.Rows
import Derived.BigQuiet
import Derived.Deep.RegionHeld3
import Derived.Deep.DeepCutAuto
import Derived.Deep.QuietTactic
namespace Go.Proofs.YtfgppkmhjjnnnaaDoor
open Go.RowKit
set_option linter.unusedVariables false

abbrev TrN := Tr Int Int
def ltN : Int → Int → Bool := fun a b => decide (a < b)
/-- The tree at a pointer: nodes that are never turned. -/
def AtN (W : World) : TrN → Value → Prop
  | .nil, p => p = .pointer none
  | .node k v l r, p => ∃ b lv rv, p = .pointer (some ⟨b, 0, none⟩) ∧ W.heap[b]? = some (.cells #[.int .u64 k, .int .i64 v, .int .i64 ((l.size + r.size + 1 : Nat) : Int), lv, rv] 80 (0, 0)) ∧ AtN W l lv ∧ AtN W r rv
/-- All blocks of nodes stay. -/
def StayN (W W' : World) : Prop := ∀ (b : Nat) (cs : Array Value), W.heap[b]? = some (.cells cs 80 (0, 0)) → W'.heap[b]? = some (.cells cs 80 (0, 0))
theorem AtN.stay {W W' : World} (h : StayN W W') : ∀ (t : TrN) (p : Value), AtN W t p → AtN W' t p
  | .nil, p, e => e
  | .node k v l r, p, ⟨b, lv, rv, e, hb, hl, hr⟩ => ⟨b, lv, rv, e, h b _ hb, AtN.stay h l lv hl, AtN.stay h r rv hr⟩
theorem StayN.of_below {W W' : World} (h : Below W.heap.size W W') : StayN W W' := fun b cs hb => (h.block b (Array.getElem?_eq_some_iff.1 hb).1).trans hb
theorem StayN.trans {A B C : World} (h : StayN A B) (h' : StayN B C) : StayN A C := fun b cs hb => h' b cs (h b cs hb)
theorem AtN.below {W W' : World} {t : TrN} {p : Value} (h : AtN W t p) (hb : Below W.heap.size W W') : AtN W' t p := AtN.stay (StayN.of_below hb) t p h
theorem AtN.form {W : World} {t : TrN} {p : Value} (h : AtN W t p) : ∃ a, p = .pointer a := by
  cases t with
  | nil => exact ⟨none, h⟩
  | node k v l r => obtain ⟨b, _, _, e, _⟩ := h; exact ⟨_, e⟩
theorem AtN.cells {W : World} {k v : Int} {l r : TrN} {p : Value} (h : AtN W (.node k v l r) p) : ∃ b la ra, p = .pointer (some ⟨b, 0, none⟩) ∧ W.heap[b]? = some (.cells #[.int .u64 k, .int .i64 v, .int .i64 ((l.size + r.size + 1 : Nat) : Int), .pointer la, .pointer ra] 80 (0, 0)) ∧ AtN W l (.pointer la) ∧ AtN W r (.pointer ra) ∧
    W.cell? ⟨b, 0, none⟩ = some (.int .u64 k) ∧ W.cell? ⟨b, 1, none⟩ = some (.int .i64 v) ∧ W.cell? ⟨b, 2, none⟩ = some (.int .i64 ((l.size + r.size + 1 : Nat) : Int)) ∧ W.cell? ⟨b, 3, none⟩ = some (.pointer la) ∧ W.cell? ⟨b, 4, none⟩ = some (.pointer ra) := by
  obtain ⟨b, lv, rv, e, hb, hl, hr⟩ := h
  obtain ⟨la, rfl⟩ := hl.form
  obtain ⟨ra, rfl⟩ := hr.form
  exact ⟨b, la, ra, e, hb, hl, hr, cell_of_row W b 0 _ _ _ hb, cell_of_row W b 1 _ _ _ hb, cell_of_row W b 2 _ _ _ hb, cell_of_row W b 3 _ _ _ hb, cell_of_row W b 4 _ _ _ hb⟩

theorem nanN (x : Int) (w : World) : Calls Tryd.prog 62 #[.int .u64 x] w fun e w' => e = .returned (.bool false) ∧ w' = w := by
  go_enter Tryd.func62, Tryd.ntmps62
  go_wp2
  go_ret
  exact ⟨rfl, rfl⟩
theorem lessN (x y : Int) (w : World) : Calls Tryd.prog 73 #[.int .u64 x, .int .u64 y] w fun e w' => e = .returned (.bool (ltN x y)) ∧ w' = w := by
  unfold ltN
  go_enter Tryd.func73, Tryd.ntmps73
  go_wp2_with (go_at_call 62; refine (nanN _ _).mono ?_; rintro e w' ⟨rfl, rfl⟩)
  go_ret
  exact ⟨rfl, rfl⟩
/-- What cmp.Compare answers. -/
def cmpN (x y : Int) : Int := if x < y then -1 else if y < x then 1 else 0
set_option maxHeartbeats 1000000 in
theorem compareN (x y : Int) (w : World) : Calls Tryd.prog 47 #[.int .u64 x, .int .u64 y] w fun e w' => e = .returned (.int .i64 (cmpN x y)) ∧ w' = w := by
  unfold cmpN
  by_cases h1 : x < y
  · rw [if_pos h1]
    have d1 : decide (x < y) = true := decide_eq_true h1
    go_enter Tryd.func47, Tryd.ntmps47
    go_wp2_with (go_at_call 62; refine (nanN _ _).mono ?_; rintro e w' ⟨rfl, rfl⟩)
    go_ret
    exact ⟨rfl, rfl⟩
  · rw [if_neg h1]
    have d1 : decide (x < y) = false := decide_eq_false h1
    by_cases h2 : y < x
    · rw [if_pos h2]
      have d2 : decide (y < x) = true := decide_eq_true h2
      go_enter Tryd.func47, Tryd.ntmps47
      go_wp2_with (go_at_call 62; refine (nanN _ _).mono ?_; rintro e w' ⟨rfl, rfl⟩)
      go_ret
      exact ⟨rfl, rfl⟩
    · rw [if_neg h2]
      have d2 : decide (y < x) = false := decide_eq_false h2
      go_enter Tryd.func47, Tryd.ntmps47
      go_wp2_with (go_at_call 62; refine (nanN _ _).mono ?_; rintro e w' ⟨rfl, rfl⟩)
      go_ret
      exact ⟨rfl, rfl⟩
theorem cmpN_eq (x y : Int) : (cmpN x y == 0) = decide (x = y) := by
  unfold cmpN
  split
  · have : ¬ x = y := by omega
    simp [this]
  · split
    · have : ¬ x = y := by omega
      simp [this]
    · have : x = y := by omega
      simp [this]

theorem tlenN (t : TrN) (p : Value) (w : World) (h : AtN w t p) : Calls Tryd.prog 64 #[p] w fun e w' => e = .returned (.int .i64 t.size) ∧ w' = w := by
  cases t with
  | nil =>
    obtain rfl := h
    go_enter Tryd.func64, Tryd.ntmps64
    go_wp2
    go_ret
    exact ⟨rfl, rfl⟩
  | node k v l r =>
    obtain ⟨b, la, ra, rfl, hb, _, _, c0, c1, c2, c3, c4⟩ := h.cells
    show Calls _ _ _ w fun e w' => e = .returned (.int .i64 ((l.size + r.size + 1 : Nat) : Int)) ∧ w' = w
    obtain ⟨n, hn⟩ : ∃ n, l.size + r.size + 1 = n := ⟨_, rfl⟩
    rw [hn] at c2 ⊢
    clear h hb hn
    go_enter Tryd.func64, Tryd.ntmps64
    go_wp2
    go_ret
    exact ⟨rfl, rfl⟩
theorem sideN (k a v : Int) (l r : TrN) (p : Value) (w : World) (h : AtN w (.node a v l r) p) : Calls Tryd.prog 63 #[p, .int .u64 k] w fun e w' => e = .returned (.int .i64 (if ltN k a then 0 else 1)) ∧ w' = w := by
  obtain ⟨b, la, ra, rfl, hb, _, _, c0, c1, c2, c3, c4⟩ := h.cells
  clear h hb
  cases hk : ltN k a with
  | true =>
    have HL := Lib.hid (lessN k a w)
    rw [hk] at HL
    go_enter Tryd.func63, Tryd.ntmps63
    go_wp2_with (go_at_call 73; refine HL.out.mono ?_; rintro e w' ⟨rfl, rfl⟩)
    go_ret
    exact ⟨rfl, rfl⟩
  | false =>
    have HL := Lib.hid (lessN k a w)
    rw [hk] at HL
    go_enter Tryd.func63, Tryd.ntmps63
    go_wp2_with (go_at_call 73; refine HL.out.mono ?_; rintro e w' ⟨rfl, rfl⟩)
    go_ret
    exact ⟨rfl, rfl⟩
end Go.Proofs.YtfgppkmhjjnnnaaDoor
