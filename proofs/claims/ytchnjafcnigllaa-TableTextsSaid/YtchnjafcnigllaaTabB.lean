/- A table's nodes: the last one of a side, the node of a key; nodes that are made of others. -/
import Derived.Test.YtchnjafcnigllaaTabA
import Derived.Deep.LoopGhost
namespace Go.Proofs.Ytchnjafcnigllaa
open Go.RowKit
set_option linter.unusedVariables false

def bitI (b : Bool) : Int := if b then 1 else 0
theorem AtN.sides {W : World} {t : TrN} {p : Value} (h : AtN W t p) (hn : t.isNode = true) : ∃ b k v cnt la ra, p = .pointer (some ⟨b, 0, none⟩) ∧ W.heap[b]? = some (.cells #[.int .i64 k, .int .i64 v, .int .i64 cnt, .pointer la, .pointer ra] 103 (0, 0)) ∧ AtN W (t.side false) (.pointer la) ∧ AtN W (t.side true) (.pointer ra) ∧
    W.cell? ⟨b, 3, none⟩ = some (.pointer la) ∧ W.cell? ⟨b, 4, none⟩ = some (.pointer ra) := by
  cases t with
  | nil => cases hn
  | node k v l r =>
    obtain ⟨b, la, ra, e, hb, hl, hr, _, _, _, c3, c4⟩ := h.cells
    exact ⟨b, k, v, _, la, ra, e, hb, hl, hr, c3, c4⟩
theorem at_none {W : World} {t : TrN} (h : AtN W t (.pointer none)) : t = .nil := by
  cases t with
  | nil => rfl
  | node k v l r => obtain ⟨b, _, _, e, _⟩ := h; cases e
theorem at_some {W : World} {t : TrN} {a : Addr} (h : AtN W t (.pointer (some a))) : t.isNode = true := by
  cases t with
  | nil => cases (h : Value.pointer (some a) = .pointer none)
  | node k v l r => rfl
theorem end_node {t : TrN} {b : Bool} (hn : t.isNode = true) : t.end_ b = if (t.side b).isNode then (t.side b).end_ b else t := by
  cases t with
  | nil => cases hn
  | node k v l r => cases b <;> rfl
theorem side_lt {t : TrN} {b : Bool} (hn : t.isNode = true) : (t.side b).size < t.size := by
  cases t with
  | nil => cases hn
  | node k v l r => cases b <;> simp [Tr.side, Tr.size] <;> omega

set_option maxRecDepth 100000 in
set_option maxHeartbeats 2000000 in
theorem endN (b : Bool) (t : TrN) (p : Value) (w : World) (h : AtN w t p) : Calls Try.prog 52 #[p, .int .i64 (bitI b)] w fun e w' => ∃ p', e = .returned p' ∧ AtN w (t.end_ b) p' ∧ w' = w := by
  obtain ⟨a, rfl⟩ := h.form
  have H := Lib.hid h
  clear h
  go_enter Try.func52, Try.ntmps52
  go_wp2
  go_loopg [0] (t.size) (fun k q wr => ∃ t' aq, q = .pointer aq ∧ k = t'.size ∧ AtN w t' (.pointer aq) ∧ t'.end_ b = t.end_ b ∧ wr = w)
  case atStart => exact ⟨t, a, rfl, rfl, H.out, rfl, rfl⟩
  case round =>
    obtain ⟨t', aq, rfl, rfl, hA, hE, rfl⟩ := hrel
    cases aq with
    | none =>
      obtain rfl := at_none hA
      have HE := Lib.hid hE
      clear hA hE
      go_wp2
      go_ret
      exact ⟨_, rfl, by rw [← HE.out]; rfl, rfl⟩
    | some ad =>
      have hn := at_some hA
      obtain ⟨q, kk, vv, cnt, la, ra, e, hb, hl, hr, c3, c4⟩ := hA.sides hn
      cases e
      have hen := end_node (b := b) hn
      rw [hE] at hen
      have hlt := side_lt (b := b) hn
      have HA := Lib.hid hA
      clear hA hb hn hE
      cases b with
      | false =>
        rw [show bitI false = 0 from rfl]
        cases la with
        | none =>
          obtain hl0 := at_none hl
          rw [hl0] at hen
          have HE := Lib.hid hen
          clear hen hl hr
          go_wp2
          go_ret
          exact ⟨_, rfl, by rw [HE.out]; exact HA.out, rfl⟩
        | some al =>
          have hl1 := at_some hl
          rw [if_pos hl1] at hen
          have HE := Lib.hid hen
          have HL := Lib.hid hl
          clear hen hl hr hl1
          go_wp2
          go_roundg ((t'.side false).size)
          case measure => exact hlt
          case rel => exact ⟨_, _, rfl, rfl, HL.out, HE.out.symm, rfl⟩
      | true =>
        rw [show bitI true = 1 from rfl]
        cases ra with
        | none =>
          obtain hl0 := at_none hr
          rw [hl0] at hen
          have HE := Lib.hid hen
          clear hen hl hr
          go_wp2
          go_ret
          exact ⟨_, rfl, by rw [HE.out]; exact HA.out, rfl⟩
        | some al =>
          have hl1 := at_some hr
          rw [if_pos hl1] at hen
          have HE := Lib.hid hen
          have HL := Lib.hid hr
          clear hen hl hr hl1
          go_wp2
          go_roundg ((t'.side true).size)
          case measure => exact hlt
          case rel => exact ⟨_, _, rfl, rfl, HL.out, HE.out.symm, rfl⟩
theorem at_drew {W : World} {t : TrN} {p : Value} (h : AtN W t p) (n : Nat) : AtN (W.drewN n) t p := AtN.stay (show StayN W (W.drewN n) from fun b cs hb => hb) t p h
theorem cmp_eq (k : Int) : cmpN k k = 0 := by unfold cmpN; simp
theorem cmp_lt {k a : Int} (h : k < a) : cmpN k a = -1 := if_pos h
theorem cmp_gt {k a : Int} (h : a < k) : cmpN k a = 1 := by unfold cmpN; rw [if_neg (by omega), if_pos h]

set_option maxRecDepth 100000 in
set_option maxHeartbeats 4000000 in
theorem findN (k : Int) (t : TrN) (p : Value) (w : World) (h : AtN w t p) : Calls Try.prog 66 #[p, .int .i64 k] w fun e w' => ∃ p', e = .returned p' ∧ AtN w (Tr.seek ltN k t) p' ∧ ∃ n, w' = w.drewN n := by
  obtain ⟨a, rfl⟩ := h.form
  have H := Lib.hid h
  clear h
  go_enter Try.func66, Try.ntmps66
  go_wp2
  go_loopg [0] (t.size) (fun m q wr => ∃ t' aq n, q = .pointer aq ∧ m = t'.size ∧ AtN w t' (.pointer aq) ∧ Tr.seek ltN k t' = Tr.seek ltN k t ∧ wr = w.drewN n)
  case atStart => exact ⟨t, a, 0, rfl, rfl, H.out, rfl, rfl⟩
  case round =>
    obtain ⟨t', aq, n, rfl, rfl, hA, hE, rfl⟩ := hrel
    cases t' with
    | nil =>
      have hq : Value.pointer aq = .pointer none := hA
      cases hq
      have HE := Lib.hid hE
      clear hA hE
      go_wp2
      go_ret
      exact ⟨_, rfl, by rw [← HE.out]; rfl, n, rfl⟩
    | node x v l r =>
      obtain ⟨b, la, ra, e, hb, hl, hr, c0, c1, c2, c3, c4⟩ := hA.cells
      cases e
      have c0q : (w.drewN n).cell? ⟨b, 0, none⟩ = some (.int .i64 x) := c0
      have c3q : (w.drewN n).cell? ⟨b, 3, none⟩ = some (.pointer la) := c3
      have c4q : (w.drewN n).cell? ⟨b, 4, none⟩ = some (.pointer ra) := c4
      have HA := Lib.hid hA
      have HL := Lib.hid hl
      have HR := Lib.hid hr
      rcases Int.lt_trichotomy k x with hk | hk | hk
      · have HC := Lib.hid (fun W => compareN k x W)
        have HS := Lib.hid (fun m => sideN k x v l r _ _ (at_drew HA.out (n + m)))
        rw [cmp_lt hk] at HC
        have hlt : ltN k x = true := decide_eq_true hk
        rw [hlt, if_pos rfl] at HS
        have hse : Tr.seek ltN k (.node x v l r) = Tr.seek ltN k l := by
          show (if k = x then _ else if ltN k x then _ else _) = _
          rw [if_neg (by omega), if_pos hlt]
        rw [hse] at hE
        have HE := Lib.hid hE
        have hsz : l.size < (Tr.node x v l r).size := by simp [Tr.size]; omega
        clear hA hb hl hr hE hse hlt hk c2 c1
        go_upto_region 2 with (go_at_call 67; refine (HC.out _).mono ?_; rintro e w' ⟨rfl, rfl⟩)
        go_quiet (exact (HS.out _).mono (fun e w' h => ⟨h.1, _, h.2⟩))
        go_wp2
        go_roundg (l.size)
        case measure => exact hsz
        case rel => exact ⟨l, la, _, rfl, rfl, HL.out, HE.out, World.drewN_drewN _ _ _⟩
      · subst hk
        have HC := Lib.hid (fun W => compareN k k W)
        rw [cmp_eq] at HC
        have hse : Tr.seek ltN k (.node k v l r) = .node k v l r := if_pos rfl
        rw [hse] at hE
        have HE := Lib.hid hE
        clear hA hb hl hr hE hse c2 c1
        go_wp2_with (go_at_call 67; refine (HC.out _).mono ?_; rintro e w' ⟨rfl, rfl⟩)
        go_ret
        exact ⟨_, rfl, by rw [← HE.out]; exact HA.out, n, rfl⟩
      · have HC := Lib.hid (fun W => compareN k x W)
        have HS := Lib.hid (fun m => sideN k x v l r _ _ (at_drew HA.out (n + m)))
        rw [cmp_gt hk] at HC
        have hlt : ltN k x = false := decide_eq_false (by omega)
        rw [hlt, if_neg (by decide)] at HS
        have hse : Tr.seek ltN k (.node x v l r) = Tr.seek ltN k r := by
          show (if k = x then _ else if ltN k x then _ else _) = _
          rw [if_neg (by omega), if_neg (by rw [hlt]; decide)]
        rw [hse] at hE
        have HE := Lib.hid hE
        have hsz : r.size < (Tr.node x v l r).size := by simp [Tr.size]; omega
        clear hA hb hl hr hE hse hlt hk c2 c1
        go_upto_region 2 with (go_at_call 67; refine (HC.out _).mono ?_; rintro e w' ⟨rfl, rfl⟩)
        go_quiet (exact (HS.out _).mono (fun e w' h => ⟨h.1, _, h.2⟩))
        go_wp2
        go_roundg (r.size)
        case measure => exact hsz
        case rel => exact ⟨r, ra, _, rfl, rfl, HR.out, HE.out, World.drewN_drewN _ _ _⟩

set_option maxRecDepth 100000 in
set_option maxHeartbeats 4000000 in
theorem belowN (k : Int) (t : TrN) (p : Value) (w : World) (h : AtN w t p) : Calls Try.prog 51 #[p, .int .i64 k] w fun e w' => ∃ p', e = .returned p' ∧ AtN w (Tr.under ltN k .nil t) p' ∧ ∃ n, w' = w.drewN n := by
  obtain ⟨a, rfl⟩ := h.form
  have H := Lib.hid h
  clear h
  go_enter Try.func51, Try.ntmps51
  go_wp2
  go_loopg [0, 5] (t.size) (fun m q s wr => ∃ t' best aq ab n, q = .pointer aq ∧ s = .pointer ab ∧ m = t'.size ∧ AtN w t' (.pointer aq) ∧ AtN w best (.pointer ab) ∧ Tr.under ltN k best t' = Tr.under ltN k .nil t ∧ wr = w.drewN n)
  case atStart => exact ⟨t, .nil, a, none, 0, rfl, rfl, rfl, H.out, rfl, rfl, rfl⟩
  case round =>
    obtain ⟨t', best, aq, ab, n, rfl, rfl, rfl, hA, hB, hE, rfl⟩ := hrel
    have HB := Lib.hid hB
    clear hB
    cases t' with
    | nil =>
      have hq : Value.pointer aq = .pointer none := hA
      cases hq
      have HE := Lib.hid hE
      clear hA hE
      go_wp2
      go_ret
      exact ⟨_, rfl, by rw [← HE.out]; exact HB.out, n, rfl⟩
    | node x v l r =>
      obtain ⟨b, la, ra, e, hb, hl, hr, c0, c1, c2, c3, c4⟩ := hA.cells
      cases e
      have c0q : (w.drewN n).cell? ⟨b, 0, none⟩ = some (.int .i64 x) := c0
      have c3q : (w.drewN n).cell? ⟨b, 3, none⟩ = some (.pointer la) := c3
      have c4q : (w.drewN n).cell? ⟨b, 4, none⟩ = some (.pointer ra) := c4
      have HA := Lib.hid hA
      have HL := Lib.hid hl
      have HR := Lib.hid hr
      have HC := Lib.hid (fun W => lessN x k W)
      cases hk : ltN x k with
      | true =>
        rw [hk] at HC
        have hse : Tr.under ltN k best (.node x v l r) = Tr.under ltN k (.node x v l r) r := if_pos hk
        rw [hse] at hE
        have HE := Lib.hid hE
        have hsz : r.size < (Tr.node x v l r).size := by simp [Tr.size]; omega
        clear hA hb hl hr hE hse hk c2 c1
        go_upto_region 4 with (go_at_call 63; refine (HC.out _).mono ?_; rintro e w' ⟨rfl, rfl⟩)
        go_quiet (fail)
        go_wp2
        go_roundg (r.size)
        case measure => exact hsz
        case rel => exact ⟨r, _, ra, _, _, rfl, rfl, rfl, HR.out, HA.out, HE.out, World.drewN_drewN _ _ _⟩
      | false =>
        rw [hk] at HC
        have hse : Tr.under ltN k best (.node x v l r) = Tr.under ltN k best l := if_neg (by rw [hk]; decide)
        rw [hse] at hE
        have HE := Lib.hid hE
        have hsz : l.size < (Tr.node x v l r).size := by simp [Tr.size]; omega
        clear hA hb hl hr hE hse hk c2 c1
        go_wp2_with (go_at_call 63; refine (HC.out _).mono ?_; rintro e w' ⟨rfl, rfl⟩)
        go_roundg (l.size)
        case measure => exact hsz
        case rel => exact ⟨l, best, la, ab, n, rfl, rfl, rfl, HL.out, HB.out, HE.out, rfl⟩
end Go.Proofs.Ytchnjafcnigllaa
