/- The document's Same, told as a call that only reads. -/
import Derived.Test.YtocmfdahnekboaaDoorRefY
namespace Go.Proofs.YtocmfdahnekboaaDoor
open Go.RowKit
set_option linter.unusedVariables false

theorem drewN_twice (w : World) (a b : Nat) : ∃ q, (w.drewN a).drewN b = w.drewN q := ⟨a + b, by simp [World.drewN, Nat.add_assoc]⟩
set_option maxRecDepth 100000 in
set_option maxHeartbeats 1000000 in
theorem sameQ_any (a1 a2 : Option Addr) (n1 c1 n2 c2 : Nat) (xs ys : List Nat) (w : World) (hl : xs.length ≤ 1048576) (hl2 : ys.length ≤ 1048576) (hx : Sl encY w.heap.size w (.slice a1 n1 c1) xs) (hy : Sl encY w.heap.size w (.slice a2 n2 c2) ys) :
    Calls Tryd.prog 54 #[.slice a1 n1 c1, .slice a2 n2 c2] w fun e w' => e = .returned (.bool (decide (xs = ys))) ∧ ∃ q, w' = w.drewN q := by
  have e1 := hx.len
  have e2 := hy.len
  subst e1; subst e2
  by_cases hne : xs.length = ys.length
  · have hq : ((xs.length : Int) != (ys.length : Int)) = false := by rw [hne]; simp
    by_cases h0 : xs.length = 0
    · have hd : decide (xs = ys) = true := decide_eq_true ((List.eq_nil_of_length_eq_zero h0).trans (List.eq_nil_of_length_eq_zero (l := ys) (by omega)).symm)
      rw [hd]
      have HQ := Lib.hid hq; clear hq hd
      have h0y : ys.length = 0 := by omega
      rw [h0, h0y]
      clear hne h0 h0y hx hy hl hl2 HQ
      go_enter Tryd.func54, Tryd.ntmps54
      go_wp2
      go_loop [5] (fun i => i = .int .i64 0) (fun _ => 0)
      case atStart => exact rfl
      case round =>
        obtain rfl := hrel
        go_wp2
        go_ret
        exact ⟨rfl, 0, rfl⟩
    · obtain ⟨b1, o1, rfl, hb1, hc1⟩ : ∃ b o, a1 = some ⟨b, o, none⟩ ∧ b < w.heap.size ∧ ∀ j x, xs[j]? = some x → w.cell? ⟨b, o + j, none⟩ = some (encY x) := by
        rcases hx with ⟨rfl, _⟩ | ⟨b, off, cap, e, hb, _, hc⟩
        · exact absurd rfl h0
        · cases e; exact ⟨_, _, rfl, hb, hc⟩
      obtain ⟨b2, o2, rfl, hb2, hc2⟩ : ∃ b o, a2 = some ⟨b, o, none⟩ ∧ b < w.heap.size ∧ ∀ j x, ys[j]? = some x → w.cell? ⟨b, o + j, none⟩ = some (encY x) := by
        rcases hy with ⟨rfl, _⟩ | ⟨b, off, cap, e, hb, _, hc⟩
        · exact absurd hne h0
        · cases e; exact ⟨_, _, rfl, hb, hc⟩
      obtain ⟨n, hn⟩ : ∃ n, xs.length = n := ⟨_, rfl⟩
      rw [hn] at hne hq hl ⊢
      have hy2 : ys.length = n := hne.symm
      rw [hy2] at hq hl2 ⊢
      have HX := Lib.hid hn; have HY := Lib.hid hy2
      clear hne hx hy h0 hn hy2
      go_enter Tryd.func54, Tryd.ntmps54
      go_wp2
      go_loopw [5] (fun i wr => ∃ k : Nat, k ≤ n ∧ i = .int .i64 k ∧ (∀ j, j < k → xs[j]? = ys[j]?) ∧ ∃ q, wr = w.drewN q) (fun i _ => n - (intOf i).toNat)
      case atStart => exact ⟨0, by omega, rfl, fun j hj => by omega, 0, rfl⟩
      case round =>
        obtain ⟨k, hk, rfl, hall, q, rfl⟩ := hrel
        have HA := Lib.hid hall; clear hall
        by_cases hlt : k < n
        · obtain ⟨x, hxk⟩ : ∃ x, xs[k]? = some x := ⟨xs[k]'(by rw [HX.out]; exact hlt), List.getElem?_eq_getElem _⟩
          obtain ⟨y, hyk⟩ : ∃ y, ys[k]? = some y := ⟨ys[k]'(by rw [HY.out]; exact hlt), List.getElem?_eq_getElem _⟩
          have k1 : w.cell? ⟨b1, o1 + k, none⟩ = some (.int .u8 (x : Int)) := hc1 k x hxk
          have k2 : w.cell? ⟨b2, o2 + k, none⟩ = some (.int .u8 (y : Int)) := hc2 k y hyk
          have HXK := Lib.hid hxk; have HYK := Lib.hid hyk; clear hxk hyk
          have g1 : (0 : Int) ≤ k := by omega
          have g2 : (k : Int) < n := by omega
          by_cases hxy : x = y
          · have hq2 : ((x : Int) != (y : Int)) = false := by rw [hxy]; simp
            have HXY := Lib.hid hxy; clear hxy
            go_wp2
            go_quiet (fail)
            all_goals go_wp2
            all_goals
              go_roundw
              case rel => exact ⟨k + 1, by omega, by go_num, fun j hj => by
                rcases Nat.lt_succ_iff_lt_or_eq.1 hj with h | rfl
                · exact HA.out j h
                · rw [HXK.out, HYK.out, HXY.out], by first | exact ⟨_, rfl⟩ | exact drewN_twice _ _ _⟩
              case measure => simp [intOf]; omega
          · have hq2 : ((x : Int) != (y : Int)) = true := by rw [bne_iff_ne]; omega
            have HD : Hid (decide (xs = ys) = false) := Lib.hid (decide_eq_false fun h => hxy (by have := HXK.out; rw [h, HYK.out] at this; cases this; rfl))
            clear hxy
            go_wp2
            go_quiet (fail)
            all_goals go_wp2
            all_goals go_ret
            all_goals exact ⟨ret_boolY HD.out.symm, by first | exact ⟨_, rfl⟩ | exact drewN_twice _ _ _⟩
        · obtain rfl : k = n := by omega
          have HD : Hid (decide (xs = ys) = true) := Lib.hid (decide_eq_true (List.ext_getElem? fun j => by
            by_cases hj : j < k
            · exact HA.out j hj
            · rw [List.getElem?_eq_none (by rw [HX.out]; omega), List.getElem?_eq_none (by rw [HY.out]; omega)]))
          go_wp2
          go_ret
          exact ⟨ret_boolY HD.out.symm, q, rfl⟩
  · have hq : ((xs.length : Int) != (ys.length : Int)) = true := by rw [bne_iff_ne]; omega
    have hd : decide (xs = ys) = false := decide_eq_false fun h => hne (by rw [h])
    rw [hd]
    clear hd hne hx hy
    go_enter Tryd.func54, Tryd.ntmps54
    go_wp2
    go_ret
    exact ⟨rfl, 0, rfl⟩

end Go.Proofs.YtocmfdahnekboaaDoor
