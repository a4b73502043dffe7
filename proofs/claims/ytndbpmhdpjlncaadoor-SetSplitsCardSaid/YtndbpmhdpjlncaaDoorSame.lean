/- Are two lists the same? -/
import Derived.Test.YtndbpmhdpjlncaaDoorSetH
import Derived.BigQuiet
import Derived.Deep.QuietTactic
namespace Go.Proofs.YtndbpmhdpjlncaaDoor
open Go.RowKit

theorem Below.drewN_r {B : Nat} {a w : World} (h : Below B a w) (n : Nat) : Below B a (w.drewN n) := ⟨h.os, h.tape, h.output, h.size, h.block⟩
theorem Sl.map {α β : Type} {enc : β → Value} {f : α → β} {n : Nat} {W : World} {sv : Value} {xs : List α} (h : Sl (fun x => enc (f x)) n W sv xs) : Sl enc n W sv (xs.map f) := by
  rcases h with ⟨e, rfl⟩ | ⟨b, off, cap, e, hb, hcap, hc⟩
  · exact .inl ⟨e, rfl⟩
  · refine .inr ⟨b, off, cap, by rw [List.length_map]; exact e, hb, by rw [List.length_map]; exact hcap, fun j y hj => ?_⟩
    rw [List.getElem?_map] at hj
    cases hx : xs[j]? with
    | none => rw [hx] at hj; cases hj
    | some x => rw [hx] at hj; cases hj; exact hc j x hx

set_option maxRecDepth 100000 in
set_option maxHeartbeats 1000000 in
theorem sameI_any (a1 a2 : Option Addr) (n1 c1 n2 c2 : Nat) (xs ys : List Int) (w : World) (hl : xs.length ≤ 1048576) (hl2 : ys.length ≤ 1048576) (hx : Sl (Value.int .i64) w.heap.size w (.slice a1 n1 c1) xs) (hy : Sl (Value.int .i64) w.heap.size w (.slice a2 n2 c2) ys) :
    Calls Tryd.prog 23 #[.slice a1 n1 c1, .slice a2 n2 c2] w fun e w' => e = .returned (.bool (decide (xs = ys))) ∧ Below w.heap.size w w' := by
  have e1 : n1 = xs.length := by
    rcases hx with ⟨e, rfl⟩ | ⟨b, off, cap, e, _⟩
    · cases e; rfl
    · cases e; rfl
  have e2 : n2 = ys.length := by
    rcases hy with ⟨e, rfl⟩ | ⟨b, off, cap, e, _⟩
    · cases e; rfl
    · cases e; rfl
  subst e1; subst e2
  by_cases hne : xs.length = ys.length
  · have hq : ((xs.length : Int) != (ys.length : Int)) = false := by rw [hne]; simp
    by_cases h0 : xs.length = 0
    · have hd : decide (xs = ys) = true := decide_eq_true ((List.eq_nil_of_length_eq_zero h0).trans (List.eq_nil_of_length_eq_zero (l := ys) (by omega)).symm)
      rw [hd]
      have HQ := Lib.hid hq; clear hq hd
      have h0y : ys.length = 0 := by omega
      rw [h0, h0y]
      clear hne h0 h0y hx hy hl hl2 HQ
      go_enter Tryd.func23, Tryd.ntmps23
      go_wp2
      go_loop [5] (fun i => i = .int .i64 0) (fun _ => 0)
      case atStart => exact rfl
      case round =>
        obtain rfl := hrel
        go_wp2
        go_ret
        exact ⟨rfl, Below.refl _ _⟩
    · obtain ⟨b1, o1, rfl⟩ : ∃ b o, a1 = some ⟨b, o, none⟩ := by
        rcases hx with ⟨e, rfl⟩ | ⟨b, off, cap, e, _⟩
        · exact absurd rfl h0
        · cases e; exact ⟨_, _, rfl⟩
      obtain ⟨b2, o2, rfl⟩ : ∃ b o, a2 = some ⟨b, o, none⟩ := by
        rcases hy with ⟨e, rfl⟩ | ⟨b, off, cap, e, _⟩
        · exact absurd (hne.trans rfl) h0
        · cases e; exact ⟨_, _, rfl⟩
      obtain ⟨_, hb1, hc1⟩ := hx.cell
      obtain ⟨_, hb2, hc2⟩ := hy.cell
      obtain ⟨n, hn⟩ : ∃ n, xs.length = n := ⟨_, rfl⟩
      rw [hn] at hne hq hl ⊢
      have hy2 : ys.length = n := hne.symm
      rw [hy2] at hq hl2 ⊢
      have HX := Lib.hid hn; have HY := Lib.hid hy2
      clear hne hx hy h0 hn hy2
      go_enter Tryd.func23, Tryd.ntmps23
      go_wp2
      go_loopw [5] (fun i wr => ∃ k : Nat, k ≤ n ∧ i = .int .i64 k ∧ (∀ j, j < k → xs[j]? = ys[j]?) ∧ Below w.heap.size w wr) (fun i _ => n - (intOf i).toNat)
      case atStart => exact ⟨0, by omega, rfl, fun j hj => by omega, Below.refl _ _⟩
      case round =>
        obtain ⟨k, hk, rfl, hall, hnx⟩ := hrel
        have HA := Lib.hid hall; clear hall
        by_cases hlt : k < n
        · obtain ⟨x, hxk⟩ : ∃ x, xs[k]? = some x := ⟨xs[k]'(by rw [HX.out]; exact hlt), List.getElem?_eq_getElem _⟩
          obtain ⟨y, hyk⟩ : ∃ y, ys[k]? = some y := ⟨ys[k]'(by rw [HY.out]; exact hlt), List.getElem?_eq_getElem _⟩
          have k1 : wr.cell? ⟨b1, o1 + k, none⟩ = some (.int .i64 x) := (hnx.cell (p := ⟨b1, o1 + k, none⟩) hb1).trans (hc1 k x hxk)
          have k2 : wr.cell? ⟨b2, o2 + k, none⟩ = some (.int .i64 y) := (hnx.cell (p := ⟨b2, o2 + k, none⟩) hb2).trans (hc2 k y hyk)
          have HXK := Lib.hid hxk; have HYK := Lib.hid hyk; clear hxk hyk
          have g1 : (0 : Int) ≤ k := by omega
          have g2 : (k : Int) < n := by omega
          by_cases hxy : x = y
          · have hq2 : (x != y) = false := by rw [hxy]; simp
            have HXY := Lib.hid hxy; clear hxy
            go_wp2
            go_quiet (fail)
            all_goals go_wp2
            all_goals
              go_roundw
              case rel => exact ⟨k + 1, by omega, by go_num, fun j hj => by
                rcases Nat.lt_succ_iff_lt_or_eq.1 hj with h | rfl
                · exact HA.out j h
                · rw [HXK.out, HYK.out, HXY.out], by repeat (first | exact hnx | apply Below.drew | exact Below.drewN_r hnx _)⟩
              case measure => simp [intOf]; omega
          · have hq2 : (x != y) = true := by rw [bne_iff_ne]; exact hxy
            have HD : Hid (decide (xs = ys) = false) := Lib.hid (decide_eq_false fun h => hxy (by have := HXK.out; rw [h, HYK.out] at this; cases this; rfl))
            clear hxy
            go_wp2
            go_quiet (fail)
            all_goals go_wp2
            all_goals go_ret
            all_goals exact ⟨ret_bool HD.out.symm, by repeat (first | exact hnx | apply Below.drew | exact Below.drewN_r hnx _)⟩
        · obtain rfl : k = n := by omega
          have HD : Hid (decide (xs = ys) = true) := Lib.hid (decide_eq_true (List.ext_getElem? fun j => by
            by_cases hj : j < k
            · exact HA.out j hj
            · rw [List.getElem?_eq_none (by rw [HX.out]; omega), List.getElem?_eq_none (by rw [HY.out]; omega)]))
          go_wp2
          go_ret
          exact ⟨ret_bool HD.out.symm, hnx⟩
  · have hq : ((xs.length : Int) != (ys.length : Int)) = true := by rw [bne_iff_ne]; omega
    have hd : decide (xs = ys) = false := decide_eq_false fun h => hne (by rw [h])
    rw [hd]
    clear hd hne hx hy
    go_enter Tryd.func23, Tryd.ntmps23
    go_wp2
    go_ret
    exact ⟨rfl, Below.refl _ _⟩

set_option maxRecDepth 100000 in
set_option maxHeartbeats 1000000 in
theorem sameN_any (a1 a2 : Option Addr) (n1 c1 n2 c2 : Nat) (xs ys : List Int) (w : World) (hl : xs.length ≤ 1048576) (hl2 : ys.length ≤ 1048576) (hx : Sl (Value.int .i64) w.heap.size w (.slice a1 n1 c1) xs) (hy : Sl (Value.int .i64) w.heap.size w (.slice a2 n2 c2) ys) :
    Calls Tryd.prog 36 #[.slice a1 n1 c1, .slice a2 n2 c2] w fun e w' => e = .returned (.bool (decide (xs = ys))) ∧ Below w.heap.size w w' := by
  have e1 : n1 = xs.length := by
    rcases hx with ⟨e, rfl⟩ | ⟨b, off, cap, e, _⟩
    · cases e; rfl
    · cases e; rfl
  have e2 : n2 = ys.length := by
    rcases hy with ⟨e, rfl⟩ | ⟨b, off, cap, e, _⟩
    · cases e; rfl
    · cases e; rfl
  subst e1; subst e2
  by_cases hne : xs.length = ys.length
  · have hq : ((xs.length : Int) != (ys.length : Int)) = false := by rw [hne]; simp
    by_cases h0 : xs.length = 0
    · have hd : decide (xs = ys) = true := decide_eq_true ((List.eq_nil_of_length_eq_zero h0).trans (List.eq_nil_of_length_eq_zero (l := ys) (by omega)).symm)
      rw [hd]
      have HQ := Lib.hid hq; clear hq hd
      have h0y : ys.length = 0 := by omega
      rw [h0, h0y]
      clear hne h0 h0y hx hy hl hl2 HQ
      go_enter Tryd.func36, Tryd.ntmps36
      go_wp2
      go_loop [5] (fun i => i = .int .i64 0) (fun _ => 0)
      case atStart => exact rfl
      case round =>
        obtain rfl := hrel
        go_wp2
        go_ret
        exact ⟨rfl, Below.refl _ _⟩
    · obtain ⟨b1, o1, rfl⟩ : ∃ b o, a1 = some ⟨b, o, none⟩ := by
        rcases hx with ⟨e, rfl⟩ | ⟨b, off, cap, e, _⟩
        · exact absurd rfl h0
        · cases e; exact ⟨_, _, rfl⟩
      obtain ⟨b2, o2, rfl⟩ : ∃ b o, a2 = some ⟨b, o, none⟩ := by
        rcases hy with ⟨e, rfl⟩ | ⟨b, off, cap, e, _⟩
        · exact absurd (hne.trans rfl) h0
        · cases e; exact ⟨_, _, rfl⟩
      obtain ⟨_, hb1, hc1⟩ := hx.cell
      obtain ⟨_, hb2, hc2⟩ := hy.cell
      obtain ⟨n, hn⟩ : ∃ n, xs.length = n := ⟨_, rfl⟩
      rw [hn] at hne hq hl ⊢
      have hy2 : ys.length = n := hne.symm
      rw [hy2] at hq hl2 ⊢
      have HX := Lib.hid hn; have HY := Lib.hid hy2
      clear hne hx hy h0 hn hy2
      go_enter Tryd.func36, Tryd.ntmps36
      go_wp2
      go_loopw [5] (fun i wr => ∃ k : Nat, k ≤ n ∧ i = .int .i64 k ∧ (∀ j, j < k → xs[j]? = ys[j]?) ∧ Below w.heap.size w wr) (fun i _ => n - (intOf i).toNat)
      case atStart => exact ⟨0, by omega, rfl, fun j hj => by omega, Below.refl _ _⟩
      case round =>
        obtain ⟨k, hk, rfl, hall, hnx⟩ := hrel
        have HA := Lib.hid hall; clear hall
        by_cases hlt : k < n
        · obtain ⟨x, hxk⟩ : ∃ x, xs[k]? = some x := ⟨xs[k]'(by rw [HX.out]; exact hlt), List.getElem?_eq_getElem _⟩
          obtain ⟨y, hyk⟩ : ∃ y, ys[k]? = some y := ⟨ys[k]'(by rw [HY.out]; exact hlt), List.getElem?_eq_getElem _⟩
          have k1 : wr.cell? ⟨b1, o1 + k, none⟩ = some (.int .i64 x) := (hnx.cell (p := ⟨b1, o1 + k, none⟩) hb1).trans (hc1 k x hxk)
          have k2 : wr.cell? ⟨b2, o2 + k, none⟩ = some (.int .i64 y) := (hnx.cell (p := ⟨b2, o2 + k, none⟩) hb2).trans (hc2 k y hyk)
          have HXK := Lib.hid hxk; have HYK := Lib.hid hyk; clear hxk hyk
          have g1 : (0 : Int) ≤ k := by omega
          have g2 : (k : Int) < n := by omega
          by_cases hxy : x = y
          · have hq2 : (x != y) = false := by rw [hxy]; simp
            have HXY := Lib.hid hxy; clear hxy
            go_wp2
            go_quiet (fail)
            all_goals go_wp2
            all_goals
              go_roundw
              case rel => exact ⟨k + 1, by omega, by go_num, fun j hj => by
                rcases Nat.lt_succ_iff_lt_or_eq.1 hj with h | rfl
                · exact HA.out j h
                · rw [HXK.out, HYK.out, HXY.out], by repeat (first | exact hnx | apply Below.drew | exact Below.drewN_r hnx _)⟩
              case measure => simp [intOf]; omega
          · have hq2 : (x != y) = true := by rw [bne_iff_ne]; exact hxy
            have HD : Hid (decide (xs = ys) = false) := Lib.hid (decide_eq_false fun h => hxy (by have := HXK.out; rw [h, HYK.out] at this; cases this; rfl))
            clear hxy
            go_wp2
            go_quiet (fail)
            all_goals go_wp2
            all_goals go_ret
            all_goals exact ⟨ret_bool HD.out.symm, by repeat (first | exact hnx | apply Below.drew | exact Below.drewN_r hnx _)⟩
        · obtain rfl : k = n := by omega
          have HD : Hid (decide (xs = ys) = true) := Lib.hid (decide_eq_true (List.ext_getElem? fun j => by
            by_cases hj : j < k
            · exact HA.out j hj
            · rw [List.getElem?_eq_none (by rw [HX.out]; omega), List.getElem?_eq_none (by rw [HY.out]; omega)]))
          go_wp2
          go_ret
          exact ⟨ret_bool HD.out.symm, hnx⟩
  · have hq : ((xs.length : Int) != (ys.length : Int)) = true := by rw [bne_iff_ne]; omega
    have hd : decide (xs = ys) = false := decide_eq_false fun h => hne (by rw [h])
    rw [hd]
    clear hd hne hx hy
    go_enter Tryd.func36, Tryd.ntmps36
    go_wp2
    go_ret
    exact ⟨rfl, Below.refl _ _⟩

set_option maxRecDepth 100000 in
set_option maxHeartbeats 1000000 in
theorem sameU_any (a1 a2 : Option Addr) (n1 c1 n2 c2 : Nat) (xs ys : List Int) (w : World) (hl : xs.length ≤ 1048576) (hl2 : ys.length ≤ 1048576) (hx : Sl (Value.int .u64) w.heap.size w (.slice a1 n1 c1) xs) (hy : Sl (Value.int .u64) w.heap.size w (.slice a2 n2 c2) ys) :
    Calls Tryd.prog 32 #[.slice a1 n1 c1, .slice a2 n2 c2] w fun e w' => e = .returned (.bool (decide (xs = ys))) ∧ Below w.heap.size w w' := by
  have e1 : n1 = xs.length := by
    rcases hx with ⟨e, rfl⟩ | ⟨b, off, cap, e, _⟩
    · cases e; rfl
    · cases e; rfl
  have e2 : n2 = ys.length := by
    rcases hy with ⟨e, rfl⟩ | ⟨b, off, cap, e, _⟩
    · cases e; rfl
    · cases e; rfl
  subst e1; subst e2
  by_cases hne : xs.length = ys.length
  · have hq : ((xs.length : Int) != (ys.length : Int)) = false := by rw [hne]; simp
    by_cases h0 : xs.length = 0
    · have hd : decide (xs = ys) = true := decide_eq_true ((List.eq_nil_of_length_eq_zero h0).trans (List.eq_nil_of_length_eq_zero (l := ys) (by omega)).symm)
      rw [hd]
      have HQ := Lib.hid hq; clear hq hd
      have h0y : ys.length = 0 := by omega
      rw [h0, h0y]
      clear hne h0 h0y hx hy hl hl2 HQ
      go_enter Tryd.func32, Tryd.ntmps32
      go_wp2
      go_loop [5] (fun i => i = .int .i64 0) (fun _ => 0)
      case atStart => exact rfl
      case round =>
        obtain rfl := hrel
        go_wp2
        go_ret
        exact ⟨rfl, Below.refl _ _⟩
    · obtain ⟨b1, o1, rfl⟩ : ∃ b o, a1 = some ⟨b, o, none⟩ := by
        rcases hx with ⟨e, rfl⟩ | ⟨b, off, cap, e, _⟩
        · exact absurd rfl h0
        · cases e; exact ⟨_, _, rfl⟩
      obtain ⟨b2, o2, rfl⟩ : ∃ b o, a2 = some ⟨b, o, none⟩ := by
        rcases hy with ⟨e, rfl⟩ | ⟨b, off, cap, e, _⟩
        · exact absurd (hne.trans rfl) h0
        · cases e; exact ⟨_, _, rfl⟩
      obtain ⟨_, hb1, hc1⟩ := hx.cell
      obtain ⟨_, hb2, hc2⟩ := hy.cell
      obtain ⟨n, hn⟩ : ∃ n, xs.length = n := ⟨_, rfl⟩
      rw [hn] at hne hq hl ⊢
      have hy2 : ys.length = n := hne.symm
      rw [hy2] at hq hl2 ⊢
      have HX := Lib.hid hn; have HY := Lib.hid hy2
      clear hne hx hy h0 hn hy2
      go_enter Tryd.func32, Tryd.ntmps32
      go_wp2
      go_loopw [5] (fun i wr => ∃ k : Nat, k ≤ n ∧ i = .int .i64 k ∧ (∀ j, j < k → xs[j]? = ys[j]?) ∧ Below w.heap.size w wr) (fun i _ => n - (intOf i).toNat)
      case atStart => exact ⟨0, by omega, rfl, fun j hj => by omega, Below.refl _ _⟩
      case round =>
        obtain ⟨k, hk, rfl, hall, hnx⟩ := hrel
        have HA := Lib.hid hall; clear hall
        by_cases hlt : k < n
        · obtain ⟨x, hxk⟩ : ∃ x, xs[k]? = some x := ⟨xs[k]'(by rw [HX.out]; exact hlt), List.getElem?_eq_getElem _⟩
          obtain ⟨y, hyk⟩ : ∃ y, ys[k]? = some y := ⟨ys[k]'(by rw [HY.out]; exact hlt), List.getElem?_eq_getElem _⟩
          have k1 : wr.cell? ⟨b1, o1 + k, none⟩ = some (.int .u64 x) := (hnx.cell (p := ⟨b1, o1 + k, none⟩) hb1).trans (hc1 k x hxk)
          have k2 : wr.cell? ⟨b2, o2 + k, none⟩ = some (.int .u64 y) := (hnx.cell (p := ⟨b2, o2 + k, none⟩) hb2).trans (hc2 k y hyk)
          have HXK := Lib.hid hxk; have HYK := Lib.hid hyk; clear hxk hyk
          have g1 : (0 : Int) ≤ k := by omega
          have g2 : (k : Int) < n := by omega
          by_cases hxy : x = y
          · have hq2 : (x != y) = false := by rw [hxy]; simp
            have HXY := Lib.hid hxy; clear hxy
            go_wp2
            go_quiet (fail)
            all_goals go_wp2
            all_goals
              go_roundw
              case rel => exact ⟨k + 1, by omega, by go_num, fun j hj => by
                rcases Nat.lt_succ_iff_lt_or_eq.1 hj with h | rfl
                · exact HA.out j h
                · rw [HXK.out, HYK.out, HXY.out], by repeat (first | exact hnx | apply Below.drew | exact Below.drewN_r hnx _)⟩
              case measure => simp [intOf]; omega
          · have hq2 : (x != y) = true := by rw [bne_iff_ne]; exact hxy
            have HD : Hid (decide (xs = ys) = false) := Lib.hid (decide_eq_false fun h => hxy (by have := HXK.out; rw [h, HYK.out] at this; cases this; rfl))
            clear hxy
            go_wp2
            go_quiet (fail)
            all_goals go_wp2
            all_goals go_ret
            all_goals exact ⟨ret_bool HD.out.symm, by repeat (first | exact hnx | apply Below.drew | exact Below.drewN_r hnx _)⟩
        · obtain rfl : k = n := by omega
          have HD : Hid (decide (xs = ys) = true) := Lib.hid (decide_eq_true (List.ext_getElem? fun j => by
            by_cases hj : j < k
            · exact HA.out j hj
            · rw [List.getElem?_eq_none (by rw [HX.out]; omega), List.getElem?_eq_none (by rw [HY.out]; omega)]))
          go_wp2
          go_ret
          exact ⟨ret_bool HD.out.symm, hnx⟩
  · have hq : ((xs.length : Int) != (ys.length : Int)) = true := by rw [bne_iff_ne]; omega
    have hd : decide (xs = ys) = false := decide_eq_false fun h => hne (by rw [h])
    rw [hd]
    clear hd hne hx hy
    go_enter Tryd.func32, Tryd.ntmps32
    go_wp2
    go_ret
    exact ⟨rfl, Below.refl _ _⟩

end Go.Proofs.YtndbpmhdpjlncaaDoor
