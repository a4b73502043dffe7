/- A table's nodes: the last one of a side, the node of a key; nodes that are made of others. -/
import Derived.Test.YtfgppkmhjjnnnaaDoorTabUA
import Derived.Deep.LoopGhost
namespace Go.Proofs.YtfgppkmhjjnnnaaDoor
open Go.RowKit
set_option linter.unusedVariables false

def bitI (b : Bool) : Int := if b then 1 else 0
theorem AtN.sides {W : World} {t : TrN} {p : Value} (h : AtN W t p) (hn : t.isNode = true) : ∃ b k v cnt la ra, p = .pointer (some ⟨b, 0, none⟩) ∧ W.heap[b]? = some (.cells #[.int .u64 k, .int .i64 v, .int .i64 cnt, .pointer la, .pointer ra] 80 (0, 0)) ∧ AtN W (t.side false) (.pointer la) ∧ AtN W (t.side true) (.pointer ra) ∧
    W.cell? ⟨b, 3, none⟩ = some (.pointer la) ∧ W.cell? ⟨b, 4, none⟩ = some (.pointer ra) := by
  cases t with
  | nil => cases hn
  | node k v l r =>
    obtain ⟨b, la, ra, e, hb, hl, hr, _, _, _, c3, c4⟩ := h.cells
    exact ⟨b, k, v, _, la, ra, e, hb, hl, hr, c3, c4⟩
theorem at_none {W : World} {t : TrN} (h : AtN W t (.pointer none)) : t = .nil := by
  cases t with
  | nil => rfl
  | node k v l r => obtain ⟨b, _, _, e, _⟩ := h; cases e
theorem at_some {W : World} {t : TrN} {a : Addr} (h : AtN W t (.pointer (some a))) : t.isNode = true := by
  cases t with
  | nil => cases (h : Value.pointer (some a) = .pointer none)
  | node k v l r => rfl
theorem end_node {t : TrN} {b : Bool} (hn : t.isNode = true) : t.end_ b = if (t.side b).isNode then (t.side b).end_ b else t := by
  cases t with
  | nil => cases hn
  | node k v l r => cases b <;> rfl
theorem side_lt {t : TrN} {b : Bool} (hn : t.isNode = true) : (t.side b).size < t.size := by
  cases t with
  | nil => cases hn
  | node k v l r => cases b <;> simp [Tr.side, Tr.size] <;> omega

theorem at_drew {W : World} {t : TrN} {p : Value} (h : AtN W t p) (n : Nat) : AtN (W.drewN n) t p := AtN.stay (show StayN W (W.drewN n) from fun b cs hb => hb) t p h
theorem cmp_eq (k : Int) : cmpN k k = 0 := by unfold cmpN; simp
theorem cmp_lt {k a : Int} (h : k < a) : cmpN k a = -1 := if_pos h
theorem cmp_gt {k a : Int} (h : a < k) : cmpN k a = 1 := by unfold cmpN; rw [if_neg (by omega), if_pos h]

set_option maxRecDepth 100000 in
set_option maxHeartbeats 4000000 in
theorem findN (k : Int) (t : TrN) (p : Value) (w : World) (h : AtN w t p) : Calls Tryd.prog 48 #[p, .int .u64 k] w fun e w' => ∃ p', e = .returned p' ∧ AtN w (Tr.seek ltN k t) p' ∧ ∃ n, w' = w.drewN n := by
  obtain ⟨a, rfl⟩ := h.form
  have H := Lib.hid h
  clear h
  go_enter Tryd.func48, Tryd.ntmps48
  go_wp2
  go_loopg [0] (t.size) (fun m q wr => ∃ t' aq n, q = .pointer aq ∧ m = t'.size ∧ AtN w t' (.pointer aq) ∧ Tr.seek ltN k t' = Tr.seek ltN k t ∧ wr = w.drewN n)
  case atStart => exact ⟨t, a, 0, rfl, rfl, H.out, rfl, rfl⟩
  case round =>
    obtain ⟨t', aq, n, rfl, rfl, hA, hE, rfl⟩ := hrel
    cases t' with
    | nil =>
      have hq : Value.pointer aq = .pointer none := hA
      cases hq
      have HE := Lib.hid hE
      clear hA hE
      go_wp2
      go_ret
      exact ⟨_, rfl, by rw [← HE.out]; rfl, n, rfl⟩
    | node x v l r =>
      obtain ⟨b, la, ra, e, hb, hl, hr, c0, c1, c2, c3, c4⟩ := hA.cells
      cases e
      have c0q : (w.drewN n).cell? ⟨b, 0, none⟩ = some (.int .u64 x) := c0
      have c3q : (w.drewN n).cell? ⟨b, 3, none⟩ = some (.pointer la) := c3
      have c4q : (w.drewN n).cell? ⟨b, 4, none⟩ = some (.pointer ra) := c4
      have HA := Lib.hid hA
      have HL := Lib.hid hl
      have HR := Lib.hid hr
      rcases Int.lt_trichotomy k x with hk | hk | hk
      · have HC := Lib.hid (fun W => compareN k x W)
        have HS := Lib.hid (fun m => sideN k x v l r _ _ (at_drew HA.out (n + m)))
        rw [cmp_lt hk] at HC
        have hlt : ltN k x = true := decide_eq_true hk
        rw [hlt, if_pos rfl] at HS
        have hse : Tr.seek ltN k (.node x v l r) = Tr.seek ltN k l := by
          show (if k = x then _ else if ltN k x then _ else _) = _
          rw [if_neg (by omega), if_pos hlt]
        rw [hse] at hE
        have HE := Lib.hid hE
        have hsz : l.size < (Tr.node x v l r).size := by simp [Tr.size]; omega
        clear hA hb hl hr hE hse hlt hk c2 c1
        go_upto_region 2 with (go_at_call 47; refine (HC.out _).mono ?_; rintro e w' ⟨rfl, rfl⟩)
        go_quiet (exact (HS.out _).mono (fun e w' h => ⟨h.1, _, h.2⟩))
        go_wp2
        go_roundg (l.size)
        case measure => exact hsz
        case rel => exact ⟨l, la, _, rfl, rfl, HL.out, HE.out, World.drewN_drewN _ _ _⟩
      · subst hk
        have HC := Lib.hid (fun W => compareN k k W)
        rw [cmp_eq] at HC
        have hse : Tr.seek ltN k (.node k v l r) = .node k v l r := if_pos rfl
        rw [hse] at hE
        have HE := Lib.hid hE
        clear hA hb hl hr hE hse c2 c1
        go_wp2_with (go_at_call 47; refine (HC.out _).mono ?_; rintro e w' ⟨rfl, rfl⟩)
        go_ret
        exact ⟨_, rfl, by rw [← HE.out]; exact HA.out, n, rfl⟩
      · have HC := Lib.hid (fun W => compareN k x W)
        have HS := Lib.hid (fun m => sideN k x v l r _ _ (at_drew HA.out (n + m)))
        rw [cmp_gt hk] at HC
        have hlt : ltN k x = false := decide_eq_false (by omega)
        rw [hlt, if_neg (by decide)] at HS
        have hse : Tr.seek ltN k (.node x v l r) = Tr.seek ltN k r := by
          show (if k = x then _ else if ltN k x then _ else _) = _
          rw [if_neg (by omega), if_neg (by rw [hlt]; decide)]
        rw [hse] at hE
        have HE := Lib.hid hE
        have hsz : r.size < (Tr.node x v l r).size := by simp [Tr.size]; omega
        clear hA hb hl hr hE hse hlt hk c2 c1
        go_upto_region 2 with (go_at_call 47; refine (HC.out _).mono ?_; rintro e w' ⟨rfl, rfl⟩)
        go_quiet (exact (HS.out _).mono (fun e w' h => ⟨h.1, _, h.2⟩))
        go_wp2
        go_roundg (r.size)
        case measure => exact hsz
        case rel => exact ⟨r, ra, _, rfl, rfl, HR.out, HE.out, World.drewN_drewN _ _ _⟩

end Go.Proofs.YtfgppkmhjjnnnaaDoor