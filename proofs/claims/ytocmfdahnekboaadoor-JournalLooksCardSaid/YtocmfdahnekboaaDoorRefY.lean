/- The document's own words on bytes: Copy, Same, Join. -/
import Derived.Test.YtocmfdahnekboaaDoorBytes
import Derived.BigQuiet
import Derived.Deep.QuietTactic
import Derived.LoopTactic
namespace Go.Proofs.YtocmfdahnekboaaDoor
open Go.RowKit

theorem ret_boolY {x a : Bool} (h1 : x = a) : Ending.returned (.bool x) = .returned (.bool a) := by rw [h1]
theorem Below.drewN_r {B : Nat} {a w : World} (h : Below B a w) (n : Nat) : Below B a (w.drewN n) := ⟨h.os, h.tape, h.output, h.size, h.block⟩

set_option maxRecDepth 100000 in
set_option maxHeartbeats 1000000 in
theorem sameY_any (a1 a2 : Option Addr) (n1 c1 n2 c2 : Nat) (xs ys : List Nat) (w : World) (hl : xs.length ≤ 1048576) (hl2 : ys.length ≤ 1048576) (hx : Sl encY w.heap.size w (.slice a1 n1 c1) xs) (hy : Sl encY w.heap.size w (.slice a2 n2 c2) ys) :
    Calls Tryd.prog 54 #[.slice a1 n1 c1, .slice a2 n2 c2] w fun e w' => e = .returned (.bool (decide (xs = ys))) ∧ Below w.heap.size w w' := by
  have e1 := hx.len
  have e2 := hy.len
  subst e1; subst e2
  by_cases hne : xs.length = ys.length
  · have hq : ((xs.length : Int) != (ys.length : Int)) = false := by rw [hne]; simp
    by_cases h0 : xs.length = 0
    · have hd : decide (xs = ys) = true := decide_eq_true ((List.eq_nil_of_length_eq_zero h0).trans (List.eq_nil_of_length_eq_zero (l := ys) (by omega)).symm)
      rw [hd]
      have HQ := Lib.hid hq; clear hq hd
      have h0y : ys.length = 0 := by omega
      rw [h0, h0y]
      clear hne h0 h0y hx hy hl hl2 HQ
      go_enter Tryd.func54, Tryd.ntmps54
      go_wp2
      go_loop [5] (fun i => i = .int .i64 0) (fun _ => 0)
      case atStart => exact rfl
      case round =>
        obtain rfl := hrel
        go_wp2
        go_ret
        exact ⟨rfl, Below.refl _ _⟩
    · obtain ⟨b1, o1, rfl, hb1, hc1⟩ : ∃ b o, a1 = some ⟨b, o, none⟩ ∧ b < w.heap.size ∧ ∀ j x, xs[j]? = some x → w.cell? ⟨b, o + j, none⟩ = some (encY x) := by
        rcases hx with ⟨rfl, _⟩ | ⟨b, off, cap, e, hb, _, hc⟩
        · exact absurd rfl h0
        · cases e; exact ⟨_, _, rfl, hb, hc⟩
      obtain ⟨b2, o2, rfl, hb2, hc2⟩ : ∃ b o, a2 = some ⟨b, o, none⟩ ∧ b < w.heap.size ∧ ∀ j x, ys[j]? = some x → w.cell? ⟨b, o + j, none⟩ = some (encY x) := by
        rcases hy with ⟨rfl, _⟩ | ⟨b, off, cap, e, hb, _, hc⟩
        · exact absurd hne h0
        · cases e; exact ⟨_, _, rfl, hb, hc⟩
      obtain ⟨n, hn⟩ : ∃ n, xs.length = n := ⟨_, rfl⟩
      rw [hn] at hne hq hl ⊢
      have hy2 : ys.length = n := hne.symm
      rw [hy2] at hq hl2 ⊢
      have HX := Lib.hid hn; have HY := Lib.hid hy2
      clear hne hx hy h0 hn hy2
      go_enter Tryd.func54, Tryd.ntmps54
      go_wp2
      go_loopw [5] (fun i wr => ∃ k : Nat, k ≤ n ∧ i = .int .i64 k ∧ (∀ j, j < k → xs[j]? = ys[j]?) ∧ Below w.heap.size w wr) (fun i _ => n - (intOf i).toNat)
      case atStart => exact ⟨0, by omega, rfl, fun j hj => by omega, Below.refl _ _⟩
      case round =>
        obtain ⟨k, hk, rfl, hall, hnx⟩ := hrel
        have HA := Lib.hid hall; clear hall
        by_cases hlt : k < n
        · obtain ⟨x, hxk⟩ : ∃ x, xs[k]? = some x := ⟨xs[k]'(by rw [HX.out]; exact hlt), List.getElem?_eq_getElem _⟩
          obtain ⟨y, hyk⟩ : ∃ y, ys[k]? = some y := ⟨ys[k]'(by rw [HY.out]; exact hlt), List.getElem?_eq_getElem _⟩
          have k1 : wr.cell? ⟨b1, o1 + k, none⟩ = some (.int .u8 (x : Int)) := (hnx.cell (p := ⟨b1, o1 + k, none⟩) hb1).trans (hc1 k x hxk)
          have k2 : wr.cell? ⟨b2, o2 + k, none⟩ = some (.int .u8 (y : Int)) := (hnx.cell (p := ⟨b2, o2 + k, none⟩) hb2).trans (hc2 k y hyk)
          have HXK := Lib.hid hxk; have HYK := Lib.hid hyk; clear hxk hyk
          have g1 : (0 : Int) ≤ k := by omega
          have g2 : (k : Int) < n := by omega
          by_cases hxy : x = y
          · have hq2 : ((x : Int) != (y : Int)) = false := by rw [hxy]; simp
            have HXY := Lib.hid hxy; clear hxy
            go_wp2
            go_quiet (fail)
            all_goals go_wp2
            all_goals
              go_roundw
              case rel => exact ⟨k + 1, by omega, by go_num, fun j hj => by
                rcases Nat.lt_succ_iff_lt_or_eq.1 hj with h | rfl
                · exact HA.out j h
                · rw [HXK.out, HYK.out, HXY.out], by repeat (first | exact hnx | apply Below.drew | exact Below.drewN_r hnx _)⟩
              case measure => simp [intOf]; omega
          · have hq2 : ((x : Int) != (y : Int)) = true := by rw [bne_iff_ne]; omega
            have HD : Hid (decide (xs = ys) = false) := Lib.hid (decide_eq_false fun h => hxy (by have := HXK.out; rw [h, HYK.out] at this; cases this; rfl))
            clear hxy
            go_wp2
            go_quiet (fail)
            all_goals go_wp2
            all_goals go_ret
            all_goals exact ⟨ret_boolY HD.out.symm, by repeat (first | exact hnx | apply Below.drew | exact Below.drewN_r hnx _)⟩
        · obtain rfl : k = n := by omega
          have HD : Hid (decide (xs = ys) = true) := Lib.hid (decide_eq_true (List.ext_getElem? fun j => by
            by_cases hj : j < k
            · exact HA.out j hj
            · rw [List.getElem?_eq_none (by rw [HX.out]; omega), List.getElem?_eq_none (by rw [HY.out]; omega)]))
          go_wp2
          go_ret
          exact ⟨ret_boolY HD.out.symm, hnx⟩
  · have hq : ((xs.length : Int) != (ys.length : Int)) = true := by rw [bne_iff_ne]; omega
    have hd : decide (xs = ys) = false := decide_eq_false fun h => hne (by rw [h])
    rw [hd]
    clear hd hne hx hy
    go_enter Tryd.func54, Tryd.ntmps54
    go_wp2
    go_ret
    exact ⟨rfl, Below.refl _ _⟩

set_option maxRecDepth 100000 in
set_option maxHeartbeats 1000000 in
theorem copyY_any (a : Option Addr) (n c : Nat) (l : List Nat) (hl : l.length ≤ 1048576) (w : World) (hS : Sl encY w.heap.size w (.slice a n c) l) :
    Calls Tryd.prog 56 #[.slice a n c] w fun e w' => ∃ v, e = .returned v ∧ w'.ownsRow w.heap.size 5 1 v l.length (l.map encY) ∧ Below w.heap.size w w' := by
  obtain ⟨i0, hi, hz0, hz1, hz2⟩ := info_parts info8
  obtain rfl := hS.len
  have HS := Lib.hid hS
  clear hS
  obtain ⟨n, hn⟩ : ∃ n, l.length = n := ⟨_, rfl⟩
  have HL := Lib.hid hn
  rw [hn] at hl ⊢
  clear hn
  go_enter Tryd.func56, Tryd.ntmps56
  go_wp2
  go_loopw [3, 4] (fun v i wr => ∃ k : Nat, k ≤ n ∧ i = .int .i64 k ∧ wr.ownsRow w.heap.size 5 1 v k ((l.take k).map encY) ∧ Below w.heap.size w wr) (fun _ i _ => n - (intOf i).toNat)
  case atStart => exact ⟨0, by omega, rfl, ownsRow_empty w _, (Below.refl _ _).alloc (Nat.le_refl _) _⟩
  case round =>
    obtain ⟨k, hk, rfl, hown, hnx⟩ := hrel
    by_cases hlt : k < n
    · obtain ⟨x, hx⟩ : ∃ x, l[k]? = some x := ⟨l[k]'(by rw [HL.out]; exact hlt), List.getElem?_eq_getElem _⟩
      obtain ⟨b, off, rfl, hb, hc⟩ := HS.out.at_ hx
      have hc' : wr.cell? ⟨b, off + k, none⟩ = some (.int .u8 (x : Int)) := (hnx.cell (p := ⟨b, off + k, none⟩) hb).trans hc
      have HT : Hid ((l.take (k + 1)).map encY = (l.take k).map encY ++ [.int .u8 (x : Int)]) := Lib.hid (by rw [take_one _ _ _ hx, List.map_append]; rfl)
      clear hx hc
      go_wp2_with (at_builtin; refine wpList_append_own _ rfl _ _ 22 rfl w.heap.size 5 i0 (.int .u8 0) 1 1 Tryd.underlying22 hi hz0 hz1 hz2 rfl (by decide) _ _ _ rfl (hown.alloc _) ⟨wr.heap.size, 0, none⟩ 1 1 [.int .u8 (x : Int)] rfl rfl (cell_one_new _ _ _) (by simp [Value.oneCell']) (by unfold maxLen; omega) (by omega) (by have := hnx.size; simp; omega) ?_)
      intro v' w1 hown' hgrow _
      have hb1 := below_append hown hnx.size hnx hgrow
      have HR := Lib.hid hown'
      clear hown' hgrow hown hnx hc'
      go_wp2
      go_roundw
      case rel => exact ⟨k + 1, by omega, by go_num, by rw [HT.out, List.map_take]; exact HR.out, hb1⟩
      case measure => simp [intOf]; omega
    · obtain rfl : k = n := by omega
      go_wp2
      go_ret
      exact ⟨_, rfl, by rw [List.take_of_length_le (by rw [HL.out]; omega)] at hown; exact hown, hnx⟩

end Go.Proofs.YtocmfdahnekboaaDoor
