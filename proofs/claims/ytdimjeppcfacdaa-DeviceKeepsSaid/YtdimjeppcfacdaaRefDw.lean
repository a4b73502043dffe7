/- The document's own device: Load, Append, Truncate. -/
import Derived.Test.YtdimjeppcfacdaaRefDv
import Derived.Test.YtdimjeppcfacdaaRegionTail
namespace Go.Proofs.Ytdimjeppcfacdaa
open Go.RowKit
set_option linter.unusedVariables false
attribute [local go_sem] Oper.semAt_some

theorem set6_but (W : World) (b : Nat) {v0 v1 v2 v3 v4 v5 : Value} : But [b] W ((((((W.setCell ⟨b, 0, none⟩ v0).setCell ⟨b, 1, none⟩ v1).setCell ⟨b, 2, none⟩ v2).setCell ⟨b, 3, none⟩ v3).setCell ⟨b, 4, none⟩ v4).setCell ⟨b, 5, none⟩ v5) :=
  ((((((But.refl _ _).set (by simp) _).set (by simp) _).set (by simp) _).set (by simp) _).set (by simp) _).set (by simp) _
theorem set6_below {N b : Nat} {w W : World} {v0 v1 v2 v3 v4 v5 : Value} (h : Below N w W) (hb : N ≤ b) : Below N w ((((((W.setCell ⟨b, 0, none⟩ v0).setCell ⟨b, 1, none⟩ v1).setCell ⟨b, 2, none⟩ v2).setCell ⟨b, 3, none⟩ v3).setCell ⟨b, 4, none⟩ v4).setCell ⟨b, 5, none⟩ v5) :=
  (((((h.setCell (p := ⟨b, 0, none⟩) hb _).setCell (p := ⟨b, 1, none⟩) hb _).setCell (p := ⟨b, 2, none⟩) hb _).setCell (p := ⟨b, 3, none⟩) hb _).setCell (p := ⟨b, 4, none⟩) hb _).setCell (p := ⟨b, 5, none⟩) hb _
/-- A row is not the block of another type that is written. -/
theorem row_far {W W' : World} {base e t b n : Nat} {v : Value} {xs : List Value} {cs : Array Value} (h : W.ownsRow base e 1 v n xs) (hb : W.heap[b]? = some (.cells cs t (0, 0))) (hte : t ≠ e) (hbut : But [b] W W') : W'.ownsRow base e 1 v n xs := by
  obtain ⟨h1, h2⟩ := h
  refine ⟨h1, ?_⟩
  rcases h2 with h2 | ⟨g, cap, cur, hv, hg, hh, r⟩
  · exact .inl h2
  · refine .inr ⟨g, cap, cur, hv, hg, (hbut.block g (Array.getElem?_eq_some_iff.1 hh).1 (fun hm => ?_)).trans hh, r⟩
    simp at hm
    subst hm
    rw [hb] at hh
    cases hh
    exact hte rfl
theorem rowForm {W : World} {B e n : Nat} {v : Value} {xs : List Value} (h : W.ownsRow B e 1 v n xs) : ∃ p m c, v = .slice p m c := by
  rcases h.2 with ⟨e, _⟩ | ⟨g, cap, cur, e, _⟩
  · exact ⟨_, _, _, e⟩
  · exact ⟨_, _, _, e⟩

set_option maxRecDepth 100000 in
set_option maxHeartbeats 4000000 in
/-- Load of what fits. -/
theorem rload_fit (a0 a1 : Option Addr) (n0 c0 n1 c1 : Nat) (cap : Nat) (lf : Int) (dn : Bool) (tn : Nat) (i : Int) (p : Option Addr) (m c : Nat) (l : List Nat) (hl : l.length ≤ 1048576) (w : World) (hS : Sl encY w.heap.size w (.slice p m c) l) (hfit : m ≤ cap) :
    Calls Try.prog 92 #[rdV (.slice a0 n0 c0) (.slice a1 n1 c1) cap lf dn tn, .int .i64 i, .slice p m c] w fun e w' => ∃ q k d, e = .returned (rdV (putA i (.slice q k d) (.slice a0 n0 c0)) (putB i (.slice q k d) (.slice a1 n1 c1)) cap lf dn tn) ∧ w'.ownsRow w.heap.size 5 1 (.slice q k d) l.length (l.map encY) ∧ Below w.heap.size w w' := by
  have hz := zrd
  have hfi : ¬ (cap : Int) < (m : Int) := by omega
  have HS := Lib.hid hS
  clear hS
  go_enter Try.func92, Try.ntmps92
  go_wp2_with fail
  obtain ⟨N, hN⟩ : ∃ N, w.heap.size = N := ⟨_, rfl⟩
  obtain ⟨w1, hw1⟩ : ∃ w1, (w.alloc (.cells #[.slice a0 n0 c0, .slice a1 n1 c1, .int .i64 (cap : Nat), .int .i64 lf, .bool dn, .int .i64 (tn : Nat)] 32)).alloc (.cells #[.slice none 0 0, .slice none 0 0, .int .i64 0, .int .i64 0, .bool false, .int .i64 0] 32) = w1 := ⟨_, rfl⟩
  have rB : w1.heap[N]? = some (.cells #[.slice a0 n0 c0, .slice a1 n1 c1, .int .i64 (cap : Nat), .int .i64 lf, .bool dn, .int .i64 (tn : Nat)] 32 (0, 0)) := by rw [← hw1, ← hN, Below.heap_alloc _ _ _ (by simp)]; exact World.alloc_heap_new w _
  have rR : w1.heap[N + 1]? = some (.cells #[.slice none 0 0, .slice none 0 0, .int .i64 0, .int .i64 0, .bool false, .int .i64 0] 32 (0, 0)) := by rw [← hw1, ← hN]; exact new2 _ _ _
  have hb1 : Below N w w1 := by rw [← hw1, ← hN]; exact new2_below _ _ _
  have hz1 : w1.heap.size = N + 2 := by rw [← hw1, ← hN]; simp
  have hS1 : Sl encY w1.heap.size w1 (.slice p m c) l := by have h := HS.out; rw [hN] at h; exact (h.below hb1).mono (by omega)
  rw [hN]
  rw [hw1]
  have HNN := Lib.hid hN
  have HZ1 := Lib.hid hz1
  have HS1 := Lib.hid hS1
  have HR := Lib.hid rR
  have HB := Lib.hid rB
  have HB1 := Lib.hid hb1
  clear hw1 hN HS rR rB hb1 hS1
  refine region_tail1 (l := [_, _, _, _, _]) (s := _) (by kernel_rfl) (by decide +kernel) (by decide +kernel) (fun v => { tmps := #[rdV (.slice a0 n0 c0) (.slice a1 n1 c1) cap lf dn tn, .int .i64 i, .slice p m c, .pointer (some ⟨N, 0, none⟩), undef, undef, .pointer (some ⟨N + 1, 0, none⟩), .slice p m c, .int .i64 (m : Nat), .pointer (some ⟨N, 2, none⟩), .int .i64 (cap : Nat), .bool false, undef, undef, undef, undef, v 0, v 1, v 2, v 3, v 4], defers := [] }) (fun W => Below w1.heap.size w1 W) (fun i' u W => match i' with
    | 0 => u = rdV (.slice a0 n0 c0) (.slice a1 n1 c1) cap lf dn tn
    | 1 => u = .int .i64 i
    | 2 => u = .slice p m c
    | 3 => ∃ q k d, u = .slice q k d ∧ W.ownsRow N 5 1 (.slice q k d) l.length (l.map encY)
    | 4 => ∃ q k d, u = rdV (putA i (.slice q k d) (.slice a0 n0 c0)) (putB i (.slice q k d) (.slice a1 n1 c1)) cap lf dn tn ∧ W.ownsRow N 5 1 (.slice q k d) l.length (l.map encY)
    | _ => True) (fun A B => Below A.heap.size A B) ?hC ?hV (fun _ => undef) ?h0 ?hop ?hend
  case hC => exact fun A B h h2 => h.trans (h2.mono h.size)
  case h0 => exact (Below.refl _ _).drew
  case hV =>
    intro i' u A B h hx
    match i', h with
    | 0, h => exact h
    | 1, h => exact h
    | 2, h => exact h
    | 3, ⟨q, k, d, e, h⟩ => exact ⟨q, k, d, e, ownsRow_below h hx (Nat.le_refl _)⟩
    | 4, ⟨q, k, d, e, h⟩ => exact ⟨q, k, d, e, ownsRow_below h hx (Nat.le_refl _)⟩
    | n + 5, h => trivial
  case hop =>
    simp only [AllDo]
    refine ⟨?o0, ?o1, ?o2, ?o3, ?o4, trivial⟩
    all_goals intro v W hc hd Q hQ
    all_goals simp [Region.binds] at hd
    all_goals rw [if_pos (show Region.wanted _ _ = true from rfl)]
    case o0 =>
      have rW := (hc.block N (by omega)).trans HB.out
      have k0 := cell_of_row W N 0 _ _ _ rW
      have k1 := cell_of_row W N 1 _ _ _ rW
      have k2 := cell_of_row W N 2 _ _ _ rW
      have k3 := cell_of_row W N 3 _ _ _ rW
      have k4 := cell_of_row W N 4 _ _ _ rW
      have k5 := cell_of_row W N 5 _ _ _ rW
      clear rW
      go_wp2
      exact ⟨_, rfl, Below.refl _ _, rfl⟩
    case o1 =>
      go_wp2
      exact ⟨_, rfl, Below.refl _ _, rfl⟩
    case o2 =>
      go_wp2
      exact ⟨_, rfl, Below.refl _ _, rfl⟩
    case o3 =>
      go_wp2_with fail
      refine (copyY_any _ _ _ l hl W (hS_step HS1.out hc)).mono ?_
      rintro e W' ⟨vv, rfl, hown, hb'⟩
      obtain ⟨q, k, d, rfl⟩ := rowForm hown
      go_wp2
      refine ⟨.slice q k d, ?_, hb', q, k, d, rfl, ownsRow_base hown (by have := hc.size; omega)⟩
      simp [updV, hd]
    case o4 =>
      obtain ⟨h0, h1, q, k, d, h3, h4⟩ := hd
      go_wp2_with fail
      refine (rset_any _ _ ⟨_, _, _, rfl⟩ ⟨_, _, _, rfl⟩ cap lf dn tn i q k d W).mono ?_
      rintro e W' ⟨rfl, hb'⟩
      have H4 := Lib.hid (⟨q, k, d, rfl, ownsRow_below h4 hb' (Nat.le_refl _)⟩ : ∃ q' k' d', rdV (putA i (.slice q k d) (.slice a0 n0 c0)) (putB i (.slice q k d) (.slice a1 n1 c1)) cap lf dn tn = rdV (putA i (.slice q' k' d') (.slice a0 n0 c0)) (putB i (.slice q' k' d') (.slice a1 n1 c1)) cap lf dn tn ∧ W'.ownsRow N 5 1 (.slice q' k' d') l.length (l.map encY))
      obtain ⟨XV, hXV⟩ : ∃ XV, rdV (putA i (.slice q k d) (.slice a0 n0 c0)) (putB i (.slice q k d) (.slice a1 n1 c1)) cap lf dn tn = XV := ⟨_, rfl⟩
      rw [hXV] at H4 ⊢
      clear hXV
      go_wp2
      refine ⟨XV, ?_, hb', H4.out⟩
      simp [updV, h0, h1, h3]
  case hend =>
    intro v W hc hv
    obtain ⟨q, k, d, e4, hown⟩ := hv 4 (by decide)
    have HOWN := Lib.hid hown
    have rW := (hc.block (N + 1) (by omega)).trans HR.out
    have HRW := Lib.hid rW
    have k0 : W.cell? ⟨N + 1, 0, none⟩ = some (.slice none 0 0) := cell_of_row W (N + 1) 0 _ _ _ rW
    have k1 : W.cell? ⟨N + 1, 1, none⟩ = some (.slice none 0 0) := cell_of_row W (N + 1) 1 _ _ _ rW
    have k2 : W.cell? ⟨N + 1, 2, none⟩ = some (.int .i64 0) := cell_of_row W (N + 1) 2 _ _ _ rW
    have k3 : W.cell? ⟨N + 1, 3, none⟩ = some (.int .i64 0) := cell_of_row W (N + 1) 3 _ _ _ rW
    have k4 : W.cell? ⟨N + 1, 4, none⟩ = some (.bool false) := cell_of_row W (N + 1) 4 _ _ _ rW
    have k5 : W.cell? ⟨N + 1, 5, none⟩ = some (.int .i64 0) := cell_of_row W (N + 1) 5 _ _ _ rW
    have f0 := frozen_of_row W (N + 1) 0 _ _ rW
    have f1 := frozen_of_row W (N + 1) 1 _ _ rW
    have f2 := frozen_of_row W (N + 1) 2 _ _ rW
    have f3 := frozen_of_row W (N + 1) 3 _ _ rW
    have f4 := frozen_of_row W (N + 1) 4 _ _ rW
    have f5 := frozen_of_row W (N + 1) 5 _ _ rW
    obtain ⟨xa, xn, xc, hXA⟩ := putA_form i q a0 k d n0 c0
    obtain ⟨ya, yn, yc, hXB⟩ := putB_form i q a1 k d n1 c1
    have HXA := Lib.hid hXA
    have HXB := Lib.hid hXB
    rw [hXA, hXB] at e4
    have HC := Lib.hid hc
    clear hc hv hown rW hXA hXB
    intro Qx hQx
    rw [if_pos (show Region.wanted _ _ = true from rfl)]
    go_wp2
    refine bodyPost_ret (rd_res _ 6 rfl _ _ (N + 1) _ _ _ _ _ _ rfl (heap_set6 HRW.out)) rfl ?_
    refine ⟨q, k, d, ?_, ?_, ?_⟩
    · rw [HXA.out, HXB.out]
    · exact row_far (by rw [HNN.out]; exact HOWN.out) HRW.out (by decide) (set6_but W (N + 1))
    · rw [HNN.out]
      exact set6_below ((HB1.out.trans (HC.out.mono (by rw [HZ1.out]; omega)))) (by omega)

set_option maxRecDepth 100000 in
set_option maxHeartbeats 4000000 in
/-- Load of more than fits. -/
theorem rload_cut (a0 a1 : Option Addr) (n0 c0 n1 c1 : Nat) (cap : Nat) (lf : Int) (dn : Bool) (tn : Nat) (i : Int) (p : Option Addr) (m c : Nat) (l0 : List Nat) (w : World) (hS0 : Sl encY w.heap.size w (.slice p m c) l0) (hbig : cap < m) (hcap1 : cap ≤ 1048576) :
    Calls Try.prog 92 #[rdV (.slice a0 n0 c0) (.slice a1 n1 c1) cap lf dn tn, .int .i64 i, .slice p m c] w fun e w' => ∃ q k d, e = .returned (rdV (putA i (.slice q k d) (.slice a0 n0 c0)) (putB i (.slice q k d) (.slice a1 n1 c1)) cap lf dn tn) ∧ w'.ownsRow w.heap.size 5 1 (.slice q k d) (l0.take cap).length ((l0.take cap).map encY) ∧ Below w.heap.size w w' := by
  have hz := zrd
  have hfi : (cap : Int) < (m : Int) := by omega
  have hcc := hS0.capb
  have hS : Sl encY w.heap.size w (.slice p cap c) (l0.take cap) := hS0.take (by omega)
  have hl : (l0.take cap).length ≤ 1048576 := by rw [List.length_take]; omega
  obtain ⟨l, hll⟩ : ∃ l, l0.take cap = l := ⟨_, rfl⟩
  rw [hll] at hS hl ⊢
  have hkc : (cap : Int) ≤ c := by omega
  have hk0 : (0 : Int) ≤ cap := by omega
  clear hS0 hll
  have HS := Lib.hid hS
  clear hS
  go_enter Try.func92, Try.ntmps92
  go_wp2_with fail
  obtain ⟨N, hN⟩ : ∃ N, w.heap.size = N := ⟨_, rfl⟩
  obtain ⟨w1, hw1⟩ : ∃ w1, (w.alloc (.cells #[.slice a0 n0 c0, .slice a1 n1 c1, .int .i64 (cap : Nat), .int .i64 lf, .bool dn, .int .i64 (tn : Nat)] 32)).alloc (.cells #[.slice none 0 0, .slice none 0 0, .int .i64 0, .int .i64 0, .bool false, .int .i64 0] 32) = w1 := ⟨_, rfl⟩
  have rB : w1.heap[N]? = some (.cells #[.slice a0 n0 c0, .slice a1 n1 c1, .int .i64 (cap : Nat), .int .i64 lf, .bool dn, .int .i64 (tn : Nat)] 32 (0, 0)) := by rw [← hw1, ← hN, Below.heap_alloc _ _ _ (by simp)]; exact World.alloc_heap_new w _
  have rR : w1.heap[N + 1]? = some (.cells #[.slice none 0 0, .slice none 0 0, .int .i64 0, .int .i64 0, .bool false, .int .i64 0] 32 (0, 0)) := by rw [← hw1, ← hN]; exact new2 _ _ _
  have hb1 : Below N w w1 := by rw [← hw1, ← hN]; exact new2_below _ _ _
  have hz1 : w1.heap.size = N + 2 := by rw [← hw1, ← hN]; simp
  have hS1 : Sl encY w1.heap.size w1 (.slice p cap c) l := by have h := HS.out; rw [hN] at h; exact (h.below hb1).mono (by omega)
  rw [hN]
  rw [hw1]
  have HNN := Lib.hid hN
  have HZ1 := Lib.hid hz1
  have HS1 := Lib.hid hS1
  have HR := Lib.hid rR
  have HB := Lib.hid rB
  have HB1 := Lib.hid hb1
  clear hw1 hN HS rR rB hb1 hS1
  refine region_tail1 (l := [_, _, _, _, _]) (s := _) (by kernel_rfl) (by decide +kernel) (by decide +kernel) (fun v => { tmps := #[rdV (.slice a0 n0 c0) (.slice a1 n1 c1) cap lf dn tn, .int .i64 i, .slice p cap c, .pointer (some ⟨N, 0, none⟩), undef, undef, .pointer (some ⟨N + 1, 0, none⟩), .slice p m c, .int .i64 (m : Nat), .pointer (some ⟨N, 2, none⟩), .int .i64 (cap : Nat), .bool true, .slice p m c, .pointer (some ⟨N, 2, none⟩), .int .i64 (cap : Nat), .slice p cap c, v 0, v 1, v 2, v 3, v 4], defers := [] }) (fun W => Below w1.heap.size w1 W) (fun i' u W => match i' with
    | 0 => u = rdV (.slice a0 n0 c0) (.slice a1 n1 c1) cap lf dn tn
    | 1 => u = .int .i64 i
    | 2 => u = .slice p cap c
    | 3 => ∃ q k d, u = .slice q k d ∧ W.ownsRow N 5 1 (.slice q k d) l.length (l.map encY)
    | 4 => ∃ q k d, u = rdV (putA i (.slice q k d) (.slice a0 n0 c0)) (putB i (.slice q k d) (.slice a1 n1 c1)) cap lf dn tn ∧ W.ownsRow N 5 1 (.slice q k d) l.length (l.map encY)
    | _ => True) (fun A B => Below A.heap.size A B) ?hC ?hV (fun _ => undef) ?h0 ?hop ?hend
  case hC => exact fun A B h h2 => h.trans (h2.mono h.size)
  case h0 => exact (Below.refl _ _).drew
  case hV =>
    intro i' u A B h hx
    match i', h with
    | 0, h => exact h
    | 1, h => exact h
    | 2, h => exact h
    | 3, ⟨q, k, d, e, h⟩ => exact ⟨q, k, d, e, ownsRow_below h hx (Nat.le_refl _)⟩
    | 4, ⟨q, k, d, e, h⟩ => exact ⟨q, k, d, e, ownsRow_below h hx (Nat.le_refl _)⟩
    | n + 5, h => trivial
  case hop =>
    simp only [AllDo]
    refine ⟨?o0, ?o1, ?o2, ?o3, ?o4, trivial⟩
    all_goals intro v W hc hd Q hQ
    all_goals simp [Region.binds] at hd
    all_goals rw [if_pos (show Region.wanted _ _ = true from rfl)]
    case o0 =>
      have rW := (hc.block N (by omega)).trans HB.out
      have k0 := cell_of_row W N 0 _ _ _ rW
      have k1 := cell_of_row W N 1 _ _ _ rW
      have k2 := cell_of_row W N 2 _ _ _ rW
      have k3 := cell_of_row W N 3 _ _ _ rW
      have k4 := cell_of_row W N 4 _ _ _ rW
      have k5 := cell_of_row W N 5 _ _ _ rW
      clear rW
      go_wp2
      exact ⟨_, rfl, Below.refl _ _, rfl⟩
    case o1 =>
      go_wp2
      exact ⟨_, rfl, Below.refl _ _, rfl⟩
    case o2 =>
      go_wp2
      exact ⟨_, rfl, Below.refl _ _, rfl⟩
    case o3 =>
      go_wp2_with fail
      refine (copyY_any _ _ _ l hl W (hS_step HS1.out hc)).mono ?_
      rintro e W' ⟨vv, rfl, hown, hb'⟩
      obtain ⟨q, k, d, rfl⟩ := rowForm hown
      go_wp2
      refine ⟨.slice q k d, ?_, hb', q, k, d, rfl, ownsRow_base hown (by have := hc.size; omega)⟩
      simp [updV, hd]
    case o4 =>
      obtain ⟨h0, h1, q, k, d, h3, h4⟩ := hd
      go_wp2_with fail
      refine (rset_any _ _ ⟨_, _, _, rfl⟩ ⟨_, _, _, rfl⟩ cap lf dn tn i q k d W).mono ?_
      rintro e W' ⟨rfl, hb'⟩
      have H4 := Lib.hid (⟨q, k, d, rfl, ownsRow_below h4 hb' (Nat.le_refl _)⟩ : ∃ q' k' d', rdV (putA i (.slice q k d) (.slice a0 n0 c0)) (putB i (.slice q k d) (.slice a1 n1 c1)) cap lf dn tn = rdV (putA i (.slice q' k' d') (.slice a0 n0 c0)) (putB i (.slice q' k' d') (.slice a1 n1 c1)) cap lf dn tn ∧ W'.ownsRow N 5 1 (.slice q' k' d') l.length (l.map encY))
      obtain ⟨XV, hXV⟩ : ∃ XV, rdV (putA i (.slice q k d) (.slice a0 n0 c0)) (putB i (.slice q k d) (.slice a1 n1 c1)) cap lf dn tn = XV := ⟨_, rfl⟩
      rw [hXV] at H4 ⊢
      clear hXV
      go_wp2
      refine ⟨XV, ?_, hb', H4.out⟩
      simp [updV, h0, h1, h3]
  case hend =>
    intro v W hc hv
    obtain ⟨q, k, d, e4, hown⟩ := hv 4 (by decide)
    have HOWN := Lib.hid hown
    have rW := (hc.block (N + 1) (by omega)).trans HR.out
    have HRW := Lib.hid rW
    have k0 : W.cell? ⟨N + 1, 0, none⟩ = some (.slice none 0 0) := cell_of_row W (N + 1) 0 _ _ _ rW
    have k1 : W.cell? ⟨N + 1, 1, none⟩ = some (.slice none 0 0) := cell_of_row W (N + 1) 1 _ _ _ rW
    have k2 : W.cell? ⟨N + 1, 2, none⟩ = some (.int .i64 0) := cell_of_row W (N + 1) 2 _ _ _ rW
    have k3 : W.cell? ⟨N + 1, 3, none⟩ = some (.int .i64 0) := cell_of_row W (N + 1) 3 _ _ _ rW
    have k4 : W.cell? ⟨N + 1, 4, none⟩ = some (.bool false) := cell_of_row W (N + 1) 4 _ _ _ rW
    have k5 : W.cell? ⟨N + 1, 5, none⟩ = some (.int .i64 0) := cell_of_row W (N + 1) 5 _ _ _ rW
    have f0 := frozen_of_row W (N + 1) 0 _ _ rW
    have f1 := frozen_of_row W (N + 1) 1 _ _ rW
    have f2 := frozen_of_row W (N + 1) 2 _ _ rW
    have f3 := frozen_of_row W (N + 1) 3 _ _ rW
    have f4 := frozen_of_row W (N + 1) 4 _ _ rW
    have f5 := frozen_of_row W (N + 1) 5 _ _ rW
    obtain ⟨xa, xn, xc, hXA⟩ := putA_form i q a0 k d n0 c0
    obtain ⟨ya, yn, yc, hXB⟩ := putB_form i q a1 k d n1 c1
    have HXA := Lib.hid hXA
    have HXB := Lib.hid hXB
    rw [hXA, hXB] at e4
    have HC := Lib.hid hc
    clear hc hv hown rW hXA hXB
    intro Qx hQx
    rw [if_pos (show Region.wanted _ _ = true from rfl)]
    go_wp2
    refine bodyPost_ret (rd_res _ 6 rfl _ _ (N + 1) _ _ _ _ _ _ rfl (heap_set6 HRW.out)) rfl ?_
    refine ⟨q, k, d, ?_, ?_, ?_⟩
    · rw [HXA.out, HXB.out]
    · exact row_far (by rw [HNN.out]; exact HOWN.out) HRW.out (by decide) (set6_but W (N + 1))
    · rw [HNN.out]
      exact set6_below ((HB1.out.trans (HC.out.mono (by rw [HZ1.out]; omega)))) (by omega)
end Go.Proofs.Ytdimjeppcfacdaa
