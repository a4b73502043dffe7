/- The document's own device: Append. -/
import Derived.Test.YtdimjeppcfacdaaRefDu
namespace Go.Proofs.Ytdimjeppcfacdaa
open Go.RowKit
set_option linter.unusedVariables false
attribute [local go_sem] Oper.semAt_some

set_option maxRecDepth 100000 in
set_option maxHeartbeats 4000000 in
theorem rapp_down (a0 a1 : Option Addr) (n0 c0 n1 c1 : Nat) (cap : Nat) (lf : Int) (tn : Nat) (i : Int) (p : Option Addr) (m c : Nat) (w : World) :
    Calls Try.prog 88 #[rdV (.slice a0 n0 c0) (.slice a1 n1 c1) cap lf true tn, .int .i64 i, .slice p m c] w fun e w' => e = .returned (.tuple #[rdV (.slice a0 n0 c0) (.slice a1 n1 c1) cap lf true tn, .int .i64 30]) ∧ Below w.heap.size w w' := by
  have hz := zrd
  go_enter Try.func88, Try.ntmps88
  go_wp2
  refine bodyPost_ret (rd_res2 _ 6 7 rfl _ _ (w.heap.size + 1) _ _ _ _ _ _ _ rfl rfl (new2 _ _ _)) rfl ⟨rfl, new2_below _ _ _⟩
set_option maxRecDepth 100000 in
set_option maxHeartbeats 4000000 in
theorem rapp_reg (a0 a1 : Option Addr) (n0 c0 n1 c1 : Nat) (cap : Nat) (lf : Int) (tn : Nat) (i : Int) (hi0 : ¬ i = 0) (hi1 : ¬ i = 1) (p : Option Addr) (m c : Nat) (w : World) :
    Calls Try.prog 88 #[rdV (.slice a0 n0 c0) (.slice a1 n1 c1) cap lf false tn, .int .i64 i, .slice p m c] w fun e w' => e = .returned (.tuple #[rdV (.slice a0 n0 c0) (.slice a1 n1 c1) cap lf false tn, .int .i64 1]) ∧ Below w.heap.size w w' := by
  have hz := zrd
  have hq0 : (i != 0) = true := by rw [bne_iff_ne]; exact hi0
  have hq1 : (i != 1) = true := by rw [bne_iff_ne]; exact hi1
  go_enter Try.func88, Try.ntmps88
  go_wp2
  all_goals refine bodyPost_ret (rd_res2 _ 6 7 rfl _ _ (w.heap.size + 1) _ _ _ _ _ _ _ rfl rfl (new2 _ _ _)) rfl ⟨rfl, new2_below _ _ _⟩

set_option maxRecDepth 100000 in
set_option maxHeartbeats 4000000 in
theorem rapp_full0 (a0 a1 : Option Addr) (n0 c0 n1 c1 : Nat) (cap : Nat) (hcap : cap ≤ 1048576) (lf : Int) (tn : Nat) (hM : n0 ≤ cap) (p : Option Addr) (m c : Nat) (hm : m ≤ 1048576) (hfull : cap < n0 + m) (w : World) :
    Calls Try.prog 88 #[rdV (.slice a0 n0 c0) (.slice a1 n1 c1) cap lf false tn, .int .i64 0, .slice p m c] w fun e w' => e = .returned (.tuple #[rdV (.slice a0 n0 c0) (.slice a1 n1 c1) cap lf false tn, .int .i64 6]) ∧ Below w.heap.size w w' := by
  have hz := zrd
  have HR := Lib.hid (fun w => rrow_any (.slice a0 n0 c0) (.slice a1 n1 c1) ⟨_, _, _, rfl⟩ ⟨_, _, _, rfl⟩ cap lf false tn 0 w)
  rw [show rowV (.slice a0 n0 c0) (.slice a1 n1 c1) 0 = .slice a0 n0 c0 from rfl] at HR
  obtain ⟨N, hN⟩ : ∃ N, w.heap.size = N := ⟨_, rfl⟩
  have HNN := Lib.hid hN
  clear hN
  go_enter Try.func88, Try.ntmps88
  go_wp2_with fail
  have hN := HNN.out
  obtain ⟨w1, hw1⟩ : ∃ w1, (w.alloc (.cells #[.slice a0 n0 c0, .slice a1 n1 c1, .int .i64 (cap : Nat), .int .i64 lf, .bool false, .int .i64 (tn : Nat)] 32)).alloc (.cells #[.slice none 0 0, .slice none 0 0, .int .i64 0, .int .i64 0, .bool false, .int .i64 0] 32) = w1 := ⟨_, rfl⟩
  have rB : w1.heap[N]? = some (.cells #[.slice a0 n0 c0, .slice a1 n1 c1, .int .i64 (cap : Nat), .int .i64 lf, .bool false, .int .i64 (tn : Nat)] 32 (0, 0)) := by rw [← hw1, ← hN, Below.heap_alloc _ _ _ (by simp)]; exact World.alloc_heap_new w _
  have rR : w1.heap[N + 1]? = some (.cells #[.slice none 0 0, .slice none 0 0, .int .i64 0, .int .i64 0, .bool false, .int .i64 0] 32 (0, 0)) := by rw [← hw1, ← hN]; exact new2 _ _ _
  have hb1 : Below N w w1 := by rw [← hw1, ← hN]; exact new2_below _ _ _
  have hz1 : w1.heap.size = N + 2 := by rw [← hw1, ← hN]; simp
  try rw [hN]
  rw [hw1]
  obtain ⟨D, hD⟩ : ∃ D, cap - n0 = D := ⟨_, rfl⟩
  have hsub : (cap : Int) - (n0 : Int) = (D : Int) := by omega
  have hD1 : D ≤ 1048576 := by omega
  have hDm : (D : Int) < (m : Int) := by omega
  have HB := Lib.hid rB
  have HRR := Lib.hid rR
  have HB1 := Lib.hid hb1
  have HZ1 := Lib.hid hz1
  clear hw1 hN hD rB rR hb1
  refine region_rel (l := _) (by kernel_rfl) (by decide +kernel) (fun v => { tmps := #[rdV (.slice a0 n0 c0) (.slice a1 n1 c1) cap lf false tn, .int .i64 0, .slice p m c, .pointer (some ⟨N, 0, none⟩), undef, undef, .pointer (some ⟨N + 1, 0, none⟩), .int .i64 0, undef, .pointer (some ⟨N, 4, none⟩), .bool false, undef, .int .i64 0, .bool false, .bool false, undef, undef, .bool false, undef, v 0, v 1, v 2, v 3, v 4, v 5, v 6, v 7, v 8, v 9, undef, undef, undef, undef, undef, undef, undef, undef, undef, undef, undef, undef, undef, undef, undef, undef, undef, undef, undef, undef, undef, undef, undef], defers := [] }) (fun W => Below w1.heap.size w1 W) (fun i' u W => match i' with
    | 0 => u = .slice p m c
    | 1 => u = .int .i64 (m : Nat)
    | 2 => u = .pointer (some ⟨N, 2, none⟩)
    | 3 => u = .int .i64 (cap : Nat)
    | 4 => u = rdV (.slice a0 n0 c0) (.slice a1 n1 c1) cap lf false tn
    | 5 => u = .int .i64 0
    | 6 => u = .slice a0 n0 c0
    | 7 => u = .int .i64 (n0 : Nat)
    | 8 => u = .int .i64 (D : Nat)
    | 9 => u = .bool true
    | _ => True) (fun A B => Below A.heap.size A B) ?hC ?hV (fun _ => undef) ?h0 ?hop ?hend
  case hC => exact fun A B h h2 => h.trans (h2.mono h.size)
  case h0 => exact (Below.refl _ _).drew
  case hV =>
    intro i' u A B h hx
    match i', h with
    | 0, h => exact h
    | 1, h => exact h
    | 2, h => exact h
    | 3, h => exact h
    | 4, h => exact h
    | 5, h => exact h
    | 6, h => exact h
    | 7, h => exact h
    | 8, h => exact h
    | 9, h => exact h
    | n + 10, h => trivial
  case hop =>
    simp only [AllDo]
    refine ⟨?o0, ?o1, ?o2, ?o3, ?o4, ?o5, ?o6, ?o7, ?o8, ?o9, trivial⟩
    all_goals intro v W hc hd Q hQ
    all_goals simp [Region.binds] at hd
    all_goals rw [if_pos (show Region.wanted _ _ = true from rfl)]
    case o3 =>
      have rW := (hc.block N (by omega)).trans HB.out
      have k2 : W.cell? ⟨N, 2, none⟩ = some (.int .i64 (cap : Nat)) := cell_of_row W N 2 _ _ _ rW
      clear rW
      go_wp2
      first | exact ⟨_, rfl, Below.refl _ _, rfl⟩ | exact ⟨by simp_all [updV], Below.refl _ _⟩
    case o4 =>
      have rW := (hc.block N (by omega)).trans HB.out
      have k0 : W.cell? ⟨N, 0, none⟩ = some (.slice a0 n0 c0) := cell_of_row W (N) 0 _ _ _ rW
      have k1 : W.cell? ⟨N, 1, none⟩ = some (.slice a1 n1 c1) := cell_of_row W (N) 1 _ _ _ rW
      have k2 : W.cell? ⟨N, 2, none⟩ = some (.int .i64 (cap : Nat)) := cell_of_row W (N) 2 _ _ _ rW
      have k3 : W.cell? ⟨N, 3, none⟩ = some (.int .i64 lf) := cell_of_row W (N) 3 _ _ _ rW
      have k4 : W.cell? ⟨N, 4, none⟩ = some (.bool false) := cell_of_row W (N) 4 _ _ _ rW
      have k5 : W.cell? ⟨N, 5, none⟩ = some (.int .i64 (tn : Nat)) := cell_of_row W (N) 5 _ _ _ rW
      clear rW
      go_wp2
      first | exact ⟨_, rfl, Below.refl _ _, rfl⟩ | exact ⟨by simp_all [updV], Below.refl _ _⟩
    case o6 =>
      obtain ⟨h1, h2⟩ := hd
      go_wp2_with fail
      refine (HR.out W).mono ?_
      rintro e W' ⟨rfl, hb'⟩
      go_wp2
      refine ⟨.slice a0 n0 c0, ?_, hb', rfl⟩
      simp [updV, h1, h2]
    all_goals go_wp2
    all_goals (first | exact ⟨_, rfl, Below.refl _ _, rfl⟩ | exact ⟨by simp_all [updV], Below.refl _ _⟩)
  case hend =>
    intro v W hc hv
    have h9 : v 9 = .bool true := hv 9 (by decide)
    have rN := (hc.block N (by omega)).trans HB.out
    have rR := (hc.block (N + 1) (by omega)).trans HRR.out
    have k0 : W.cell? ⟨N, 0, none⟩ = some (.slice a0 n0 c0) := cell_of_row W (N) 0 _ _ _ rN
    have k1 : W.cell? ⟨N, 1, none⟩ = some (.slice a1 n1 c1) := cell_of_row W (N) 1 _ _ _ rN
    have k2 : W.cell? ⟨N, 2, none⟩ = some (.int .i64 (cap : Nat)) := cell_of_row W (N) 2 _ _ _ rN
    have k3 : W.cell? ⟨N, 3, none⟩ = some (.int .i64 lf) := cell_of_row W (N) 3 _ _ _ rN
    have k4 : W.cell? ⟨N, 4, none⟩ = some (.bool false) := cell_of_row W (N) 4 _ _ _ rN
    have k5 : W.cell? ⟨N, 5, none⟩ = some (.int .i64 (tn : Nat)) := cell_of_row W (N) 5 _ _ _ rN
    have r0 : W.cell? ⟨N + 1, 0, none⟩ = some (.slice none 0 0) := cell_of_row W (N + 1) 0 _ _ _ rR
    have r1 : W.cell? ⟨N + 1, 1, none⟩ = some (.slice none 0 0) := cell_of_row W (N + 1) 1 _ _ _ rR
    have r2 : W.cell? ⟨N + 1, 2, none⟩ = some (.int .i64 0) := cell_of_row W (N + 1) 2 _ _ _ rR
    have r3 : W.cell? ⟨N + 1, 3, none⟩ = some (.int .i64 0) := cell_of_row W (N + 1) 3 _ _ _ rR
    have r4 : W.cell? ⟨N + 1, 4, none⟩ = some (.bool false) := cell_of_row W (N + 1) 4 _ _ _ rR
    have r5 : W.cell? ⟨N + 1, 5, none⟩ = some (.int .i64 0) := cell_of_row W (N + 1) 5 _ _ _ rR
    have g0 := frozen_of_row W (N + 1) 0 _ _ rR
    have g1 := frozen_of_row W (N + 1) 1 _ _ rR
    have g2 := frozen_of_row W (N + 1) 2 _ _ rR
    have g3 := frozen_of_row W (N + 1) 3 _ _ rR
    have g4 := frozen_of_row W (N + 1) 4 _ _ rR
    have g5 := frozen_of_row W (N + 1) 5 _ _ rR
    have HRW := Lib.hid rR
    have hb0W := HB1.out.trans (hc.mono (by omega))
    have HBW := Lib.hid hb0W
    clear hc hv rN rR hb0W HB HRR HB1 HR
    dsimp only
    rw [h9]
    go_wp2
    refine bodyPost_ret (rd_res2 _ 6 7 rfl _ _ (N + 1) _ _ _ _ _ _ _ rfl rfl (heap_set6 HRW.out)) rfl ?_
    exact ⟨rfl, by rw [HNN.out]; exact set6_below HBW.out (by omega)⟩

set_option maxRecDepth 100000 in
set_option maxHeartbeats 8000000 in
theorem rapp_good0 (a0 a1 : Option Addr) (n0 c0 n1 c1 : Nat) (cap : Nat) (hcap : cap ≤ 1048576) (lf : Int) (hl : lf ≤ 9223372036854775807) (tn : Nat) (ht : tn ≤ 1099511627776) (hM : n0 ≤ cap) (p : Option Addr) (m c : Nat) (hfit : n0 + m ≤ cap) (lr l : List Nat) (w : World) (hS : Sl encY w.heap.size w (.slice a0 n0 c0) lr) (hT : Sl encY w.heap.size w (.slice p m c) l) :
    Calls Try.prog 88 #[rdV (.slice a0 n0 c0) (.slice a1 n1 c1) cap lf false tn, .int .i64 0, .slice p m c] w fun e w' => ∃ q k d, e = .returned (.tuple #[rdV (putA 0 (.slice q k d) (.slice a0 n0 c0)) (putB 0 (.slice q k d) (.slice a1 n1 c1)) cap (tLeft lf m) (tDown false lf m) (tn + tDone lf m), .int .i64 (if tDown false lf m = true then 30 else 0)]) ∧
      w'.ownsRow w.heap.size 5 1 (.slice q k d) (lr ++ l.take (tDone lf m)).length ((lr ++ l.take (tDone lf m)).map encY) ∧ Below w.heap.size w w' := by
  have hz := zrd
  have hlr := hS.len
  have hll := hT.len
  have hlr2 : lr.length + m ≤ 1048576 := by omega
  have HT := Lib.hid (fun w => rturn_any (.slice a0 n0 c0) (.slice a1 n1 c1) ⟨_, _, _, rfl⟩ ⟨_, _, _, rfl⟩ cap lf false tn hl m (by omega) ht w)
  obtain ⟨G, hG⟩ : ∃ G, tDone lf m = G := ⟨_, rfl⟩
  have hGD : G ≤ m := by rw [← hG]; exact tDone_le lf m
  obtain ⟨LF, hLF⟩ : ∃ LF, tLeft lf m = LF := ⟨_, rfl⟩
  obtain ⟨DN, hDN⟩ : ∃ DN, tDown false lf m = DN := ⟨_, rfl⟩
  rw [hG, hLF, hDN] at HT ⊢
  have HS := Lib.hid hS
  have hTL : Sl encY w.heap.size w (.slice p G c) (l.take G) := hT.take hGD
  have hcT := hT.capb
  obtain ⟨lt, hlt⟩ : ∃ lt, l.take G = lt := ⟨_, rfl⟩
  have hltl : lt.length ≤ m := by rw [← hlt, List.length_take]; omega
  rw [hlt] at hTL ⊢
  have HTL := Lib.hid hTL
  obtain ⟨LL, hLL⟩ : ∃ LL, lr ++ lt = LL := ⟨_, rfl⟩
  rw [hLL]
  have HLL := Lib.hid hLL
  clear hG hLF hDN hS hT hTL hlt hlr hll hLL
  have HR := Lib.hid (fun w => rrow_any (.slice a0 n0 c0) (.slice a1 n1 c1) ⟨_, _, _, rfl⟩ ⟨_, _, _, rfl⟩ cap lf false tn 0 w)
  rw [show rowV (.slice a0 n0 c0) (.slice a1 n1 c1) 0 = .slice a0 n0 c0 from rfl] at HR
  obtain ⟨N, hN⟩ : ∃ N, w.heap.size = N := ⟨_, rfl⟩
  have HNN := Lib.hid hN
  clear hN
  go_enter Try.func88, Try.ntmps88
  go_wp2_with fail
  have hN := HNN.out
  obtain ⟨w1, hw1⟩ : ∃ w1, (w.alloc (.cells #[.slice a0 n0 c0, .slice a1 n1 c1, .int .i64 (cap : Nat), .int .i64 lf, .bool false, .int .i64 (tn : Nat)] 32)).alloc (.cells #[.slice none 0 0, .slice none 0 0, .int .i64 0, .int .i64 0, .bool false, .int .i64 0] 32) = w1 := ⟨_, rfl⟩
  have rB : w1.heap[N]? = some (.cells #[.slice a0 n0 c0, .slice a1 n1 c1, .int .i64 (cap : Nat), .int .i64 lf, .bool false, .int .i64 (tn : Nat)] 32 (0, 0)) := by rw [← hw1, ← hN, Below.heap_alloc _ _ _ (by simp)]; exact World.alloc_heap_new w _
  have rR : w1.heap[N + 1]? = some (.cells #[.slice none 0 0, .slice none 0 0, .int .i64 0, .int .i64 0, .bool false, .int .i64 0] 32 (0, 0)) := by rw [← hw1, ← hN]; exact new2 _ _ _
  have hb1 : Below N w w1 := by rw [← hw1, ← hN]; exact new2_below _ _ _
  have hz1 : w1.heap.size = N + 2 := by rw [← hw1, ← hN]; simp
  try rw [hN]
  rw [hw1]
  obtain ⟨D, hD⟩ : ∃ D, cap - n0 = D := ⟨_, rfl⟩
  have hsub : (cap : Int) - (n0 : Int) = (D : Int) := by omega
  have hD1 : D ≤ 1048576 := by omega
  have hDm : ¬ (D : Int) < (m : Int) := by omega
  have HB := Lib.hid rB
  have HRR := Lib.hid rR
  have HB1 := Lib.hid hb1
  have HZ1 := Lib.hid hz1
  clear hw1 hN hD rB rR hb1
  refine region_rel (l := _) (by kernel_rfl) (by decide +kernel) (fun v => { tmps := #[rdV (.slice a0 n0 c0) (.slice a1 n1 c1) cap lf false tn, .int .i64 0, .slice p m c, .pointer (some ⟨N, 0, none⟩), undef, undef, .pointer (some ⟨N + 1, 0, none⟩), .int .i64 0, undef, .pointer (some ⟨N, 4, none⟩), .bool false, undef, .int .i64 0, .bool false, .bool false, undef, undef, .bool false, undef, v 0, v 1, v 2, v 3, v 4, v 5, v 6, v 7, v 8, v 9, undef, undef, undef, undef, undef, undef, undef, undef, undef, undef, undef, undef, undef, undef, undef, undef, undef, undef, undef, undef, undef, undef, undef], defers := [] }) (fun W => Below w1.heap.size w1 W) (fun i' u W => match i' with
    | 0 => u = .slice p m c
    | 1 => u = .int .i64 (m : Nat)
    | 2 => u = .pointer (some ⟨N, 2, none⟩)
    | 3 => u = .int .i64 (cap : Nat)
    | 4 => u = rdV (.slice a0 n0 c0) (.slice a1 n1 c1) cap lf false tn
    | 5 => u = .int .i64 0
    | 6 => u = .slice a0 n0 c0
    | 7 => u = .int .i64 (n0 : Nat)
    | 8 => u = .int .i64 (D : Nat)
    | 9 => u = .bool false
    | _ => True) (fun A B => Below A.heap.size A B) ?hC ?hV (fun _ => undef) ?h0 ?hop ?hend
  case hC => exact fun A B h h2 => h.trans (h2.mono h.size)
  case h0 => exact (Below.refl _ _).drew
  case hV =>
    intro i' u A B h hx
    match i', h with
    | 0, h => exact h
    | 1, h => exact h
    | 2, h => exact h
    | 3, h => exact h
    | 4, h => exact h
    | 5, h => exact h
    | 6, h => exact h
    | 7, h => exact h
    | 8, h => exact h
    | 9, h => exact h
    | n + 10, h => trivial
  case hop =>
    simp only [AllDo]
    refine ⟨?o0, ?o1, ?o2, ?o3, ?o4, ?o5, ?o6, ?o7, ?o8, ?o9, trivial⟩
    all_goals intro v W hc hd Q hQ
    all_goals simp [Region.binds] at hd
    all_goals rw [if_pos (show Region.wanted _ _ = true from rfl)]
    case o3 =>
      have rW := (hc.block N (by omega)).trans HB.out
      have k2 : W.cell? ⟨N, 2, none⟩ = some (.int .i64 (cap : Nat)) := cell_of_row W N 2 _ _ _ rW
      clear rW
      go_wp2
      first | exact ⟨_, rfl, Below.refl _ _, rfl⟩ | exact ⟨by simp_all [updV], Below.refl _ _⟩
    case o4 =>
      have rW := (hc.block N (by omega)).trans HB.out
      have k0 : W.cell? ⟨N, 0, none⟩ = some (.slice a0 n0 c0) := cell_of_row W (N) 0 _ _ _ rW
      have k1 : W.cell? ⟨N, 1, none⟩ = some (.slice a1 n1 c1) := cell_of_row W (N) 1 _ _ _ rW
      have k2 : W.cell? ⟨N, 2, none⟩ = some (.int .i64 (cap : Nat)) := cell_of_row W (N) 2 _ _ _ rW
      have k3 : W.cell? ⟨N, 3, none⟩ = some (.int .i64 lf) := cell_of_row W (N) 3 _ _ _ rW
      have k4 : W.cell? ⟨N, 4, none⟩ = some (.bool false) := cell_of_row W (N) 4 _ _ _ rW
      have k5 : W.cell? ⟨N, 5, none⟩ = some (.int .i64 (tn : Nat)) := cell_of_row W (N) 5 _ _ _ rW
      clear rW
      go_wp2
      first | exact ⟨_, rfl, Below.refl _ _, rfl⟩ | exact ⟨by simp_all [updV], Below.refl _ _⟩
    case o6 =>
      obtain ⟨h1, h2⟩ := hd
      go_wp2_with fail
      refine (HR.out W).mono ?_
      rintro e W' ⟨rfl, hb'⟩
      go_wp2
      refine ⟨.slice a0 n0 c0, ?_, hb', rfl⟩
      simp [updV, h1, h2]
    all_goals go_wp2
    all_goals (first | exact ⟨_, rfl, Below.refl _ _, rfl⟩ | exact ⟨by simp_all [updV], Below.refl _ _⟩)
  case hend =>
    intro v w2 hc hv
    have h9 : v 9 = .bool false := hv 9 (by decide)
    have rN := (hc.block N (by omega)).trans HB.out
    have rR := (hc.block (N + 1) (by omega)).trans HRR.out
    have k0 : w2.cell? ⟨N, 0, none⟩ = some (.slice a0 n0 c0) := cell_of_row w2 (N) 0 _ _ _ rN
    have k1 : w2.cell? ⟨N, 1, none⟩ = some (.slice a1 n1 c1) := cell_of_row w2 (N) 1 _ _ _ rN
    have k2 : w2.cell? ⟨N, 2, none⟩ = some (.int .i64 (cap : Nat)) := cell_of_row w2 (N) 2 _ _ _ rN
    have k3 : w2.cell? ⟨N, 3, none⟩ = some (.int .i64 lf) := cell_of_row w2 (N) 3 _ _ _ rN
    have k4 : w2.cell? ⟨N, 4, none⟩ = some (.bool false) := cell_of_row w2 (N) 4 _ _ _ rN
    have k5 : w2.cell? ⟨N, 5, none⟩ = some (.int .i64 (tn : Nat)) := cell_of_row w2 (N) 5 _ _ _ rN
    have HB2 := Lib.hid rN
    have HR2 := Lib.hid rR
    have hb0W := HB1.out.trans (hc.mono (by omega))
    have HB02 := Lib.hid hb0W
    have hz2 : N + 2 ≤ w2.heap.size := by have := hc.size; omega
    clear hc hv rN rR hb0W HB HRR HB1 HR
    dsimp only
    rw [h9]
    go_wp2_with fail
    refine (HT.out w2).mono ?_
    rintro e w3 ⟨rfl, hb3⟩
    have rB3 := (hb3.block N (by omega)).trans HB2.out
    have rR3 := (hb3.block (N + 1) (by omega)).trans HR2.out
    have hb03 : Below N w w3 := HB02.out.trans (hb3.mono (by omega))
    have hz3 : N + 2 ≤ w3.heap.size := by have := hb3.size; omega
    have k0 : w3.cell? ⟨N, 0, none⟩ = some (.slice a0 n0 c0) := cell_of_row w3 N 0 _ _ _ rB3
    have k1 : w3.cell? ⟨N, 1, none⟩ = some (.slice a1 n1 c1) := cell_of_row w3 N 1 _ _ _ rB3
    have k2 : w3.cell? ⟨N, 2, none⟩ = some (.int .i64 (cap : Nat)) := cell_of_row w3 N 2 _ _ _ rB3
    have k3 : w3.cell? ⟨N, 3, none⟩ = some (.int .i64 lf) := cell_of_row w3 N 3 _ _ _ rB3
    have k4 : w3.cell? ⟨N, 4, none⟩ = some (.bool false) := cell_of_row w3 N 4 _ _ _ rB3
    have k5 : w3.cell? ⟨N, 5, none⟩ = some (.int .i64 (tn : Nat)) := cell_of_row w3 N 5 _ _ _ rB3
    have f0 := frozen_of_row w3 N 0 _ _ rB3
    have f1 := frozen_of_row w3 N 1 _ _ rB3
    have f2 := frozen_of_row w3 N 2 _ _ rB3
    have f3 := frozen_of_row w3 N 3 _ _ rB3
    have f4 := frozen_of_row w3 N 4 _ _ rB3
    have f5 := frozen_of_row w3 N 5 _ _ rB3
    have HB3 := Lib.hid rB3
    have HR3 := Lib.hid rR3
    have HB03 := Lib.hid hb03
    clear rB3 rR3 hb03 hb3 HB2 HR2 HB02 HT
    go_wp2_with fail
    obtain ⟨w4, hw4⟩ : ∃ w4, ((((((w3.setCell ⟨N, 0, none⟩ (.slice a0 n0 c0)).setCell ⟨N, 1, none⟩ (.slice a1 n1 c1)).setCell ⟨N, 2, none⟩ (.int .i64 (cap : Nat))).setCell ⟨N, 3, none⟩ (.int .i64 LF)).setCell ⟨N, 4, none⟩ (.bool DN)).setCell ⟨N, 5, none⟩ (.int .i64 ((tn : Int) + (G : Int)))) = w4 := ⟨_, rfl⟩
    have rB4 : w4.heap[N]? = some (.cells #[.slice a0 n0 c0, .slice a1 n1 c1, .int .i64 (cap : Nat), .int .i64 LF, .bool DN, .int .i64 ((tn : Int) + (G : Int))] 32 (0, 0)) := by rw [← hw4]; exact heap_set6 HB3.out
    have hbut4 : But [N] w3 w4 := by rw [← hw4]; exact set6_but w3 N
    have rR4 := (hbut4.block (N + 1) (by omega) (by simp)).trans HR3.out
    have hb04 : Below N w w4 := by rw [← hw4]; exact set6_below HB03.out (Nat.le_refl _)
    have hz4 : N + 2 ≤ w4.heap.size := by have := hbut4.size; omega
    have hS4 : Sl encY w4.heap.size w4 (.slice a0 n0 c0) lr := by
      have h := HS.out
      rw [HNN.out] at h
      exact (h.below hb04).mono (by omega)
    have hT4 : Sl encY w4.heap.size w4 (.slice p G c) lt := by
      have h := HTL.out
      rw [HNN.out] at h
      exact (h.below hb04).mono (by omega)
    have HT4 := Lib.hid hT4
    rw [hw4]
    have HB4 := Lib.hid rB4
    have HR4 := Lib.hid rR4
    have HB04 := Lib.hid hb04
    have HS4 := Lib.hid hS4
    clear hw4 rB4 rR4 hb04 hS4 hT4 hbut4 HB3 HR3 HB03 k0 k1 k2 k3 k4 k5 f0 f1 f2 f3 f4 f5
    refine region_tail1 (l := [_, _, _, _, _, _, _, _, _, _, _]) (s := _) (by kernel_rfl) (by decide +kernel) (by decide +kernel) (fun v' => { tmps := #[rdV (.slice a0 n0 c0) (.slice a1 n1 c1) cap lf false tn, .int .i64 0, .slice p m c, .pointer (some ⟨N, 0, none⟩), undef, undef, .pointer (some ⟨N + 1, 0, none⟩), .int .i64 0, .int .i64 (G : Nat), .pointer (some ⟨N, 4, none⟩), .bool false, undef, .int .i64 0, .bool false, .bool false, undef, undef, .bool false, undef, v 0, v 1, v 2, v 3, v 4, v 5, v 6, v 7, v 8, .bool false, undef, .tuple #[rdV (.slice a0 n0 c0) (.slice a1 n1 c1) cap LF DN (tn + G), .int .i64 (G : Nat)], .agg #[.slice a0 n0 c0, .slice a1 n1 c1, .int .i64 (cap : Nat), .int .i64 lf, .bool false, .int .i64 (tn : Nat)], .slice p m c, .int .i64 (m : Nat), .tuple #[rdV (.slice a0 n0 c0) (.slice a1 n1 c1) cap LF DN (tn + G), .int .i64 (G : Nat)], rdV (.slice a0 n0 c0) (.slice a1 n1 c1) cap LF DN (tn + G), .int .i64 (G : Nat), v' 0, v' 1, v' 2, v' 3, v' 4, v' 5, v' 6, v' 7, v' 8, v' 9, v' 10, undef, undef, undef, undef], defers := [] }) (fun W => Below w4.heap.size w4 W) (fun i' u W => match i' with
      | 0 => u = (.agg #[.slice a0 n0 c0, .slice a1 n1 c1, .int .i64 (cap : Nat), .int .i64 LF, .bool DN, .int .i64 ((tn : Int) + (G : Int))])
      | 1 => u = .int .i64 0
      | 2 => u = (.agg #[.slice a0 n0 c0, .slice a1 n1 c1, .int .i64 (cap : Nat), .int .i64 LF, .bool DN, .int .i64 ((tn : Int) + (G : Int))])
      | 3 => u = .int .i64 0
      | 4 => u = .slice a0 n0 c0
      | 5 => u = .slice p m c
      | 6 => u = .int .i64 (G : Nat)
      | 7 => u = .slice p G c
      | 8 => ∃ B, u = .slice (some ⟨B, 0, none⟩) 2 2 ∧ Parts W.heap.size W (.slice (some ⟨B, 0, none⟩) 2 2) [lr, lt]
      | 9 => ∃ q k d, u = .slice q k d ∧ W.ownsRow N 5 1 (.slice q k d) LL.length (LL.map encY)
      | 10 => ∃ q k d, u = (.agg #[putA 0 (.slice q k d) (.slice a0 n0 c0), putB 0 (.slice q k d) (.slice a1 n1 c1), .int .i64 (cap : Nat), .int .i64 LF, .bool DN, .int .i64 ((tn : Int) + (G : Int))]) ∧ W.ownsRow N 5 1 (.slice q k d) LL.length (LL.map encY)
      | _ => True) (fun A B => Below A.heap.size A B) ?hC8 ?hV8 (fun _ => undef) ?h08 ?hop8 ?hend8
    case hC8 => exact fun A B h h2 => h.trans (h2.mono h.size)
    case h08 => exact (Below.refl _ _).drew
    case hV8 =>
      intro i' u A B h hx
      match i', h with
      | 0, h => exact h
      | 1, h => exact h
      | 2, h => exact h
      | 3, h => exact h
      | 4, h => exact h
      | 5, h => exact h
      | 6, h => exact h
      | 7, h => exact h
      | 8, ⟨b, e, h⟩ => exact ⟨b, e, (h.below hx).mono hx.size⟩
      | 9, ⟨q, k, d, e, h⟩ => exact ⟨q, k, d, e, ownsRow_below h hx (Nat.le_refl _)⟩
      | 10, ⟨q, k, d, e, h⟩ => exact ⟨q, k, d, e, ownsRow_below h hx (Nat.le_refl _)⟩
      | n + 11, h => trivial
    case hop8 =>
      have hGc : (G : Int) ≤ c := by omega
      have hG0 : (0 : Int) ≤ G := by omega
      simp only [AllDo]
      refine ⟨?e0, ?e1, ?e2, ?e3, ?e4, ?e5, ?e6, ?e7, ?e8, ?e9, ?e10, trivial⟩
      all_goals intro v' W hc hd Q hQ
      all_goals simp [Region.binds] at hd
      all_goals rw [if_pos (show Region.wanted _ _ = true from rfl)]
      case e0 =>
        have rW := (hc.block N (by omega)).trans HB4.out
        have k0 : W.cell? ⟨N, 0, none⟩ = some (.slice a0 n0 c0) := cell_of_row W N 0 _ _ _ rW
        have k1 : W.cell? ⟨N, 1, none⟩ = some (.slice a1 n1 c1) := cell_of_row W N 1 _ _ _ rW
        have k2 : W.cell? ⟨N, 2, none⟩ = some (.int .i64 (cap : Nat)) := cell_of_row W N 2 _ _ _ rW
        have k3 : W.cell? ⟨N, 3, none⟩ = some (.int .i64 LF) := cell_of_row W N 3 _ _ _ rW
        have k4 : W.cell? ⟨N, 4, none⟩ = some (.bool DN) := cell_of_row W N 4 _ _ _ rW
        have k5 : W.cell? ⟨N, 5, none⟩ = some (.int .i64 ((tn : Int) + (G : Int))) := cell_of_row W N 5 _ _ _ rW
        clear rW
        go_wp2
        first | exact ⟨_, rfl, Below.refl _ _, rfl⟩ | exact ⟨by simp_all [updV], Below.refl _ _⟩
      case e2 =>
        have rW := (hc.block N (by omega)).trans HB4.out
        have k0 : W.cell? ⟨N, 0, none⟩ = some (.slice a0 n0 c0) := cell_of_row W N 0 _ _ _ rW
        have k1 : W.cell? ⟨N, 1, none⟩ = some (.slice a1 n1 c1) := cell_of_row W N 1 _ _ _ rW
        have k2 : W.cell? ⟨N, 2, none⟩ = some (.int .i64 (cap : Nat)) := cell_of_row W N 2 _ _ _ rW
        have k3 : W.cell? ⟨N, 3, none⟩ = some (.int .i64 LF) := cell_of_row W N 3 _ _ _ rW
        have k4 : W.cell? ⟨N, 4, none⟩ = some (.bool DN) := cell_of_row W N 4 _ _ _ rW
        have k5 : W.cell? ⟨N, 5, none⟩ = some (.int .i64 ((tn : Int) + (G : Int))) := cell_of_row W N 5 _ _ _ rW
        clear rW
        go_wp2
        first | exact ⟨_, rfl, Below.refl _ _, rfl⟩ | exact ⟨by simp_all [updV], Below.refl _ _⟩
      case e4 =>
        have hrw := rrow_any (.slice a0 n0 c0) (.slice a1 n1 c1) ⟨_, _, _, rfl⟩ ⟨_, _, _, rfl⟩ cap LF DN (tn + G) 0 W
        obtain ⟨h1, h2⟩ := hd
        go_wp2_with fail
        refine hrw.mono ?_
        rintro e W' ⟨rfl, hb'⟩
        rw [show rowV (.slice a0 n0 c0) (.slice a1 n1 c1) 0 = .slice a0 n0 c0 from rfl]
        go_wp2
        refine ⟨.slice a0 n0 c0, ?_, hb', rfl⟩
        simp [updV, h1, h2]
      case e8 =>
        obtain ⟨h1, h2⟩ := hd
        go_wp2
        refine ⟨.slice (some ⟨W.heap.size, 0, none⟩) 2 2, ?_, (Below.refl _ _).alloc (Nat.le_refl _) _, _, rfl, Parts.two W _ _ lr lt _ (hS_step HS4.out hc) (hS_step HT4.out hc)⟩
        simp [updV, h1, h2]
      case e9 =>
        obtain ⟨⟨B, h1, h2⟩, h3⟩ := hd
        go_wp2_with fail
        refine (joinY_any _ 2 2 [lr, lt] (by simp; omega) (by simp) W h2).mono ?_
        rintro e W' ⟨vv, rfl, hown, hb'⟩
        rw [show [lr, lt].flatten = LL from by rw [← HLL.out]; simp] at hown
        obtain ⟨q, k, d, rfl⟩ := rowForm hown
        go_wp2
        refine ⟨.slice q k d, ?_, hb', q, k, d, rfl, ownsRow_base hown (by have := hc.size; omega)⟩
        simp [updV, h1, h3]
      case e10 =>
        obtain ⟨h0, h1, ⟨q, k, d, h3, h4⟩⟩ := hd
        have hset := rset_any (.slice a0 n0 c0) (.slice a1 n1 c1) ⟨_, _, _, rfl⟩ ⟨_, _, _, rfl⟩ cap LF DN (tn + G) 0 q k d W
        go_wp2_with fail
        refine hset.mono ?_
        rintro e W' ⟨rfl, hb'⟩
        have H4 := Lib.hid (⟨q, k, d, rfl, ownsRow_below h4 hb' (Nat.le_refl _)⟩ : ∃ q' k' d', rdV (putA 0 (.slice q k d) (.slice a0 n0 c0)) (putB 0 (.slice q k d) (.slice a1 n1 c1)) cap LF DN (tn + G) = rdV (putA 0 (.slice q' k' d') (.slice a0 n0 c0)) (putB 0 (.slice q' k' d') (.slice a1 n1 c1)) cap LF DN (tn + G) ∧ W'.ownsRow N 5 1 (.slice q' k' d') LL.length (LL.map encY))
        obtain ⟨XV, hXV⟩ : ∃ XV, rdV (putA 0 (.slice q k d) (.slice a0 n0 c0)) (putB 0 (.slice q k d) (.slice a1 n1 c1)) cap LF DN (tn + G) = XV := ⟨_, rfl⟩
        rw [hXV] at H4 ⊢
        clear hXV hset
        go_wp2
        refine ⟨XV, ?_, hb', H4.out⟩
        simp [updV, h0, h1, h3]
      all_goals go_wp2
      all_goals (first | exact ⟨_, rfl, Below.refl _ _, rfl⟩ | exact ⟨by simp_all [updV], Below.refl _ _⟩)
    case hend8 =>
      intro v' W hc hv
      obtain ⟨q, k, d, e4, hown⟩ := hv 10 (by decide)
      have HOWN := Lib.hid hown
      have rN := (hc.block N (by omega)).trans HB4.out
      have rR := (hc.block (N + 1) (by omega)).trans HR4.out
      have HRN := Lib.hid rN
      have HRR := Lib.hid rR
      have k0 : W.cell? ⟨N, 0, none⟩ = some (.slice a0 n0 c0) := cell_of_row W (N) 0 _ _ _ rN
      have k1 : W.cell? ⟨N, 1, none⟩ = some (.slice a1 n1 c1) := cell_of_row W (N) 1 _ _ _ rN
      have k2 : W.cell? ⟨N, 2, none⟩ = some (.int .i64 (cap : Nat)) := cell_of_row W (N) 2 _ _ _ rN
      have k3 : W.cell? ⟨N, 3, none⟩ = some (.int .i64 LF) := cell_of_row W (N) 3 _ _ _ rN
      have k4 : W.cell? ⟨N, 4, none⟩ = some (.bool DN) := cell_of_row W (N) 4 _ _ _ rN
      have k5 : W.cell? ⟨N, 5, none⟩ = some (.int .i64 ((tn : Int) + (G : Int))) := cell_of_row W (N) 5 _ _ _ rN
      have f0 := frozen_of_row W (N) 0 _ _ rN
      have f1 := frozen_of_row W (N) 1 _ _ rN
      have f2 := frozen_of_row W (N) 2 _ _ rN
      have f3 := frozen_of_row W (N) 3 _ _ rN
      have f4 := frozen_of_row W (N) 4 _ _ rN
      have f5 := frozen_of_row W (N) 5 _ _ rN
      have r0 : W.cell? ⟨N + 1, 0, none⟩ = some (.slice none 0 0) := cell_of_row W (N + 1) 0 _ _ _ rR
      have r1 : W.cell? ⟨N + 1, 1, none⟩ = some (.slice none 0 0) := cell_of_row W (N + 1) 1 _ _ _ rR
      have r2 : W.cell? ⟨N + 1, 2, none⟩ = some (.int .i64 0) := cell_of_row W (N + 1) 2 _ _ _ rR
      have r3 : W.cell? ⟨N + 1, 3, none⟩ = some (.int .i64 0) := cell_of_row W (N + 1) 3 _ _ _ rR
      have r4 : W.cell? ⟨N + 1, 4, none⟩ = some (.bool false) := cell_of_row W (N + 1) 4 _ _ _ rR
      have r5 : W.cell? ⟨N + 1, 5, none⟩ = some (.int .i64 0) := cell_of_row W (N + 1) 5 _ _ _ rR
      have g0 := frozen_of_row W (N + 1) 0 _ _ rR
      have g1 := frozen_of_row W (N + 1) 1 _ _ rR
      have g2 := frozen_of_row W (N + 1) 2 _ _ rR
      have g3 := frozen_of_row W (N + 1) 3 _ _ rR
      have g4 := frozen_of_row W (N + 1) 4 _ _ rR
      have g5 := frozen_of_row W (N + 1) 5 _ _ rR
      obtain ⟨xa, xn, xc, hXA⟩ := putA_form 0 q a0 k d n0 c0
      obtain ⟨ya, yn, yc, hXB⟩ := putB_form 0 q a1 k d n1 c1
      have HXA := Lib.hid hXA
      have HXB := Lib.hid hXB
      rw [hXA, hXB] at e4
      have HC := Lib.hid hc
      have hb0W := HB04.out.trans (hc.mono (by omega))
      have HBW := Lib.hid hb0W
      have hNW : N + 1 < W.heap.size := by have := hc.size; omega
      clear hc hv hown rN rR hXA hXB hb0W HB4 HR4 HS4 HT4 HB04
      intro Qx hQx
      rw [if_pos (show Region.wanted _ _ = true from rfl)]
      cases DN with
      | true =>
        go_wp2
        refine bodyPost_ret (rd_res2 _ 6 7 rfl _ _ (N + 1) _ _ _ _ _ _ _ rfl rfl (heap_set6 (((set6_but W N).block (N + 1) hNW (by simp)).trans HRR.out))) rfl ?_
        refine ⟨q, k, d, ?_, ?_, ?_⟩
        · rw [HXA.out, HXB.out]; rfl
        · rw [HNN.out]
          exact row_far (row_far HOWN.out HRN.out (by decide) (set6_but W N)) (((set6_but W N).block (N + 1) hNW (by simp)).trans HRR.out) (by decide) (set6_but _ (N + 1))
        · rw [HNN.out]
          exact set6_below (set6_below HBW.out (Nat.le_refl _)) (by omega)
      | false =>
        go_wp2
        refine bodyPost_ret (rd_res2 _ 6 7 rfl _ _ (N + 1) _ _ _ _ _ _ _ rfl rfl (heap_set6 (((set6_but W N).block (N + 1) hNW (by simp)).trans HRR.out))) rfl ?_
        refine ⟨q, k, d, ?_, ?_, ?_⟩
        · rw [HXA.out, HXB.out]; rfl
        · rw [HNN.out]
          exact row_far (row_far HOWN.out HRN.out (by decide) (set6_but W N)) (((set6_but W N).block (N + 1) hNW (by simp)).trans HRR.out) (by decide) (set6_but _ (N + 1))
        · rw [HNN.out]
          exact set6_below (set6_below HBW.out (Nat.le_refl _)) (by omega)


set_option maxRecDepth 100000 in
set_option maxHeartbeats 4000000 in
theorem rapp_full1 (a0 a1 : Option Addr) (n0 c0 n1 c1 : Nat) (cap : Nat) (hcap : cap ≤ 1048576) (lf : Int) (tn : Nat) (hM : n1 ≤ cap) (p : Option Addr) (m c : Nat) (hm : m ≤ 1048576) (hfull : cap < n1 + m) (w : World) :
    Calls Try.prog 88 #[rdV (.slice a0 n0 c0) (.slice a1 n1 c1) cap lf false tn, .int .i64 1, .slice p m c] w fun e w' => e = .returned (.tuple #[rdV (.slice a0 n0 c0) (.slice a1 n1 c1) cap lf false tn, .int .i64 6]) ∧ Below w.heap.size w w' := by
  have hz := zrd
  have HR := Lib.hid (fun w => rrow_any (.slice a0 n0 c0) (.slice a1 n1 c1) ⟨_, _, _, rfl⟩ ⟨_, _, _, rfl⟩ cap lf false tn 1 w)
  rw [show rowV (.slice a0 n0 c0) (.slice a1 n1 c1) 1 = .slice a1 n1 c1 from rfl] at HR
  obtain ⟨N, hN⟩ : ∃ N, w.heap.size = N := ⟨_, rfl⟩
  have HNN := Lib.hid hN
  clear hN
  go_enter Try.func88, Try.ntmps88
  go_wp2_with fail
  have hN := HNN.out
  obtain ⟨w1, hw1⟩ : ∃ w1, (w.alloc (.cells #[.slice a0 n0 c0, .slice a1 n1 c1, .int .i64 (cap : Nat), .int .i64 lf, .bool false, .int .i64 (tn : Nat)] 32)).alloc (.cells #[.slice none 0 0, .slice none 0 0, .int .i64 0, .int .i64 0, .bool false, .int .i64 0] 32) = w1 := ⟨_, rfl⟩
  have rB : w1.heap[N]? = some (.cells #[.slice a0 n0 c0, .slice a1 n1 c1, .int .i64 (cap : Nat), .int .i64 lf, .bool false, .int .i64 (tn : Nat)] 32 (0, 0)) := by rw [← hw1, ← hN, Below.heap_alloc _ _ _ (by simp)]; exact World.alloc_heap_new w _
  have rR : w1.heap[N + 1]? = some (.cells #[.slice none 0 0, .slice none 0 0, .int .i64 0, .int .i64 0, .bool false, .int .i64 0] 32 (0, 0)) := by rw [← hw1, ← hN]; exact new2 _ _ _
  have hb1 : Below N w w1 := by rw [← hw1, ← hN]; exact new2_below _ _ _
  have hz1 : w1.heap.size = N + 2 := by rw [← hw1, ← hN]; simp
  try rw [hN]
  rw [hw1]
  obtain ⟨D, hD⟩ : ∃ D, cap - n1 = D := ⟨_, rfl⟩
  have hsub : (cap : Int) - (n1 : Int) = (D : Int) := by omega
  have hD1 : D ≤ 1048576 := by omega
  have hDm : (D : Int) < (m : Int) := by omega
  have HB := Lib.hid rB
  have HRR := Lib.hid rR
  have HB1 := Lib.hid hb1
  have HZ1 := Lib.hid hz1
  clear hw1 hN hD rB rR hb1
  refine region_rel (l := _) (by kernel_rfl) (by decide +kernel) (fun v => { tmps := #[rdV (.slice a0 n0 c0) (.slice a1 n1 c1) cap lf false tn, .int .i64 1, .slice p m c, .pointer (some ⟨N, 0, none⟩), undef, undef, .pointer (some ⟨N + 1, 0, none⟩), .int .i64 0, undef, .pointer (some ⟨N, 4, none⟩), .bool false, undef, .int .i64 1, .bool true, .bool true, .int .i64 1, .bool false, .bool false, undef, v 0, v 1, v 2, v 3, v 4, v 5, v 6, v 7, v 8, v 9, undef, undef, undef, undef, undef, undef, undef, undef, undef, undef, undef, undef, undef, undef, undef, undef, undef, undef, undef, undef, undef, undef, undef], defers := [] }) (fun W => Below w1.heap.size w1 W) (fun i' u W => match i' with
    | 0 => u = .slice p m c
    | 1 => u = .int .i64 (m : Nat)
    | 2 => u = .pointer (some ⟨N, 2, none⟩)
    | 3 => u = .int .i64 (cap : Nat)
    | 4 => u = rdV (.slice a0 n0 c0) (.slice a1 n1 c1) cap lf false tn
    | 5 => u = .int .i64 1
    | 6 => u = .slice a1 n1 c1
    | 7 => u = .int .i64 (n1 : Nat)
    | 8 => u = .int .i64 (D : Nat)
    | 9 => u = .bool true
    | _ => True) (fun A B => Below A.heap.size A B) ?hC ?hV (fun _ => undef) ?h0 ?hop ?hend
  case hC => exact fun A B h h2 => h.trans (h2.mono h.size)
  case h0 => exact (Below.refl _ _).drew
  case hV =>
    intro i' u A B h hx
    match i', h with
    | 0, h => exact h
    | 1, h => exact h
    | 2, h => exact h
    | 3, h => exact h
    | 4, h => exact h
    | 5, h => exact h
    | 6, h => exact h
    | 7, h => exact h
    | 8, h => exact h
    | 9, h => exact h
    | n + 10, h => trivial
  case hop =>
    simp only [AllDo]
    refine ⟨?o0, ?o1, ?o2, ?o3, ?o4, ?o5, ?o6, ?o7, ?o8, ?o9, trivial⟩
    all_goals intro v W hc hd Q hQ
    all_goals simp [Region.binds] at hd
    all_goals rw [if_pos (show Region.wanted _ _ = true from rfl)]
    case o3 =>
      have rW := (hc.block N (by omega)).trans HB.out
      have k2 : W.cell? ⟨N, 2, none⟩ = some (.int .i64 (cap : Nat)) := cell_of_row W N 2 _ _ _ rW
      clear rW
      go_wp2
      first | exact ⟨_, rfl, Below.refl _ _, rfl⟩ | exact ⟨by simp_all [updV], Below.refl _ _⟩
    case o4 =>
      have rW := (hc.block N (by omega)).trans HB.out
      have k0 : W.cell? ⟨N, 0, none⟩ = some (.slice a0 n0 c0) := cell_of_row W (N) 0 _ _ _ rW
      have k1 : W.cell? ⟨N, 1, none⟩ = some (.slice a1 n1 c1) := cell_of_row W (N) 1 _ _ _ rW
      have k2 : W.cell? ⟨N, 2, none⟩ = some (.int .i64 (cap : Nat)) := cell_of_row W (N) 2 _ _ _ rW
      have k3 : W.cell? ⟨N, 3, none⟩ = some (.int .i64 lf) := cell_of_row W (N) 3 _ _ _ rW
      have k4 : W.cell? ⟨N, 4, none⟩ = some (.bool false) := cell_of_row W (N) 4 _ _ _ rW
      have k5 : W.cell? ⟨N, 5, none⟩ = some (.int .i64 (tn : Nat)) := cell_of_row W (N) 5 _ _ _ rW
      clear rW
      go_wp2
      first | exact ⟨_, rfl, Below.refl _ _, rfl⟩ | exact ⟨by simp_all [updV], Below.refl _ _⟩
    case o6 =>
      obtain ⟨h1, h2⟩ := hd
      go_wp2_with fail
      refine (HR.out W).mono ?_
      rintro e W' ⟨rfl, hb'⟩
      go_wp2
      refine ⟨.slice a1 n1 c1, ?_, hb', rfl⟩
      simp [updV, h1, h2]
    all_goals go_wp2
    all_goals (first | exact ⟨_, rfl, Below.refl _ _, rfl⟩ | exact ⟨by simp_all [updV], Below.refl _ _⟩)
  case hend =>
    intro v W hc hv
    have h9 : v 9 = .bool true := hv 9 (by decide)
    have rN := (hc.block N (by omega)).trans HB.out
    have rR := (hc.block (N + 1) (by omega)).trans HRR.out
    have k0 : W.cell? ⟨N, 0, none⟩ = some (.slice a0 n0 c0) := cell_of_row W (N) 0 _ _ _ rN
    have k1 : W.cell? ⟨N, 1, none⟩ = some (.slice a1 n1 c1) := cell_of_row W (N) 1 _ _ _ rN
    have k2 : W.cell? ⟨N, 2, none⟩ = some (.int .i64 (cap : Nat)) := cell_of_row W (N) 2 _ _ _ rN
    have k3 : W.cell? ⟨N, 3, none⟩ = some (.int .i64 lf) := cell_of_row W (N) 3 _ _ _ rN
    have k4 : W.cell? ⟨N, 4, none⟩ = some (.bool false) := cell_of_row W (N) 4 _ _ _ rN
    have k5 : W.cell? ⟨N, 5, none⟩ = some (.int .i64 (tn : Nat)) := cell_of_row W (N) 5 _ _ _ rN
    have r0 : W.cell? ⟨N + 1, 0, none⟩ = some (.slice none 0 0) := cell_of_row W (N + 1) 0 _ _ _ rR
    have r1 : W.cell? ⟨N + 1, 1, none⟩ = some (.slice none 0 0) := cell_of_row W (N + 1) 1 _ _ _ rR
    have r2 : W.cell? ⟨N + 1, 2, none⟩ = some (.int .i64 0) := cell_of_row W (N + 1) 2 _ _ _ rR
    have r3 : W.cell? ⟨N + 1, 3, none⟩ = some (.int .i64 0) := cell_of_row W (N + 1) 3 _ _ _ rR
    have r4 : W.cell? ⟨N + 1, 4, none⟩ = some (.bool false) := cell_of_row W (N + 1) 4 _ _ _ rR
    have r5 : W.cell? ⟨N + 1, 5, none⟩ = some (.int .i64 0) := cell_of_row W (N + 1) 5 _ _ _ rR
    have g0 := frozen_of_row W (N + 1) 0 _ _ rR
    have g1 := frozen_of_row W (N + 1) 1 _ _ rR
    have g2 := frozen_of_row W (N + 1) 2 _ _ rR
    have g3 := frozen_of_row W (N + 1) 3 _ _ rR
    have g4 := frozen_of_row W (N + 1) 4 _ _ rR
    have g5 := frozen_of_row W (N + 1) 5 _ _ rR
    have HRW := Lib.hid rR
    have hb0W := HB1.out.trans (hc.mono (by omega))
    have HBW := Lib.hid hb0W
    clear hc hv rN rR hb0W HB HRR HB1 HR
    dsimp only
    rw [h9]
    go_wp2
    refine bodyPost_ret (rd_res2 _ 6 7 rfl _ _ (N + 1) _ _ _ _ _ _ _ rfl rfl (heap_set6 HRW.out)) rfl ?_
    exact ⟨rfl, by rw [HNN.out]; exact set6_below HBW.out (by omega)⟩

set_option maxRecDepth 100000 in
set_option maxHeartbeats 8000000 in
theorem rapp_good1 (a0 a1 : Option Addr) (n0 c0 n1 c1 : Nat) (cap : Nat) (hcap : cap ≤ 1048576) (lf : Int) (hl : lf ≤ 9223372036854775807) (tn : Nat) (ht : tn ≤ 1099511627776) (hM : n1 ≤ cap) (p : Option Addr) (m c : Nat) (hfit : n1 + m ≤ cap) (lr l : List Nat) (w : World) (hS : Sl encY w.heap.size w (.slice a1 n1 c1) lr) (hT : Sl encY w.heap.size w (.slice p m c) l) :
    Calls Try.prog 88 #[rdV (.slice a0 n0 c0) (.slice a1 n1 c1) cap lf false tn, .int .i64 1, .slice p m c] w fun e w' => ∃ q k d, e = .returned (.tuple #[rdV (putA 1 (.slice q k d) (.slice a0 n0 c0)) (putB 1 (.slice q k d) (.slice a1 n1 c1)) cap (tLeft lf m) (tDown false lf m) (tn + tDone lf m), .int .i64 (if tDown false lf m = true then 30 else 0)]) ∧
      w'.ownsRow w.heap.size 5 1 (.slice q k d) (lr ++ l.take (tDone lf m)).length ((lr ++ l.take (tDone lf m)).map encY) ∧ Below w.heap.size w w' := by
  have hz := zrd
  have hlr := hS.len
  have hll := hT.len
  have hlr2 : lr.length + m ≤ 1048576 := by omega
  have HT := Lib.hid (fun w => rturn_any (.slice a0 n0 c0) (.slice a1 n1 c1) ⟨_, _, _, rfl⟩ ⟨_, _, _, rfl⟩ cap lf false tn hl m (by omega) ht w)
  obtain ⟨G, hG⟩ : ∃ G, tDone lf m = G := ⟨_, rfl⟩
  have hGD : G ≤ m := by rw [← hG]; exact tDone_le lf m
  obtain ⟨LF, hLF⟩ : ∃ LF, tLeft lf m = LF := ⟨_, rfl⟩
  obtain ⟨DN, hDN⟩ : ∃ DN, tDown false lf m = DN := ⟨_, rfl⟩
  rw [hG, hLF, hDN] at HT ⊢
  have HS := Lib.hid hS
  have hTL : Sl encY w.heap.size w (.slice p G c) (l.take G) := hT.take hGD
  have hcT := hT.capb
  obtain ⟨lt, hlt⟩ : ∃ lt, l.take G = lt := ⟨_, rfl⟩
  have hltl : lt.length ≤ m := by rw [← hlt, List.length_take]; omega
  rw [hlt] at hTL ⊢
  have HTL := Lib.hid hTL
  obtain ⟨LL, hLL⟩ : ∃ LL, lr ++ lt = LL := ⟨_, rfl⟩
  rw [hLL]
  have HLL := Lib.hid hLL
  clear hG hLF hDN hS hT hTL hlt hlr hll hLL
  have HR := Lib.hid (fun w => rrow_any (.slice a0 n0 c0) (.slice a1 n1 c1) ⟨_, _, _, rfl⟩ ⟨_, _, _, rfl⟩ cap lf false tn 1 w)
  rw [show rowV (.slice a0 n0 c0) (.slice a1 n1 c1) 1 = .slice a1 n1 c1 from rfl] at HR
  obtain ⟨N, hN⟩ : ∃ N, w.heap.size = N := ⟨_, rfl⟩
  have HNN := Lib.hid hN
  clear hN
  go_enter Try.func88, Try.ntmps88
  go_wp2_with fail
  have hN := HNN.out
  obtain ⟨w1, hw1⟩ : ∃ w1, (w.alloc (.cells #[.slice a0 n0 c0, .slice a1 n1 c1, .int .i64 (cap : Nat), .int .i64 lf, .bool false, .int .i64 (tn : Nat)] 32)).alloc (.cells #[.slice none 0 0, .slice none 0 0, .int .i64 0, .int .i64 0, .bool false, .int .i64 0] 32) = w1 := ⟨_, rfl⟩
  have rB : w1.heap[N]? = some (.cells #[.slice a0 n0 c0, .slice a1 n1 c1, .int .i64 (cap : Nat), .int .i64 lf, .bool false, .int .i64 (tn : Nat)] 32 (0, 0)) := by rw [← hw1, ← hN, Below.heap_alloc _ _ _ (by simp)]; exact World.alloc_heap_new w _
  have rR : w1.heap[N + 1]? = some (.cells #[.slice none 0 0, .slice none 0 0, .int .i64 0, .int .i64 0, .bool false, .int .i64 0] 32 (0, 0)) := by rw [← hw1, ← hN]; exact new2 _ _ _
  have hb1 : Below N w w1 := by rw [← hw1, ← hN]; exact new2_below _ _ _
  have hz1 : w1.heap.size = N + 2 := by rw [← hw1, ← hN]; simp
  try rw [hN]
  rw [hw1]
  obtain ⟨D, hD⟩ : ∃ D, cap - n1 = D := ⟨_, rfl⟩
  have hsub : (cap : Int) - (n1 : Int) = (D : Int) := by omega
  have hD1 : D ≤ 1048576 := by omega
  have hDm : ¬ (D : Int) < (m : Int) := by omega
  have HB := Lib.hid rB
  have HRR := Lib.hid rR
  have HB1 := Lib.hid hb1
  have HZ1 := Lib.hid hz1
  clear hw1 hN hD rB rR hb1
  refine region_rel (l := _) (by kernel_rfl) (by decide +kernel) (fun v => { tmps := #[rdV (.slice a0 n0 c0) (.slice a1 n1 c1) cap lf false tn, .int .i64 1, .slice p m c, .pointer (some ⟨N, 0, none⟩), undef, undef, .pointer (some ⟨N + 1, 0, none⟩), .int .i64 0, undef, .pointer (some ⟨N, 4, none⟩), .bool false, undef, .int .i64 1, .bool true, .bool true, .int .i64 1, .bool false, .bool false, undef, v 0, v 1, v 2, v 3, v 4, v 5, v 6, v 7, v 8, v 9, undef, undef, undef, undef, undef, undef, undef, undef, undef, undef, undef, undef, undef, undef, undef, undef, undef, undef, undef, undef, undef, undef, undef], defers := [] }) (fun W => Below w1.heap.size w1 W) (fun i' u W => match i' with
    | 0 => u = .slice p m c
    | 1 => u = .int .i64 (m : Nat)
    | 2 => u = .pointer (some ⟨N, 2, none⟩)
    | 3 => u = .int .i64 (cap : Nat)
    | 4 => u = rdV (.slice a0 n0 c0) (.slice a1 n1 c1) cap lf false tn
    | 5 => u = .int .i64 1
    | 6 => u = .slice a1 n1 c1
    | 7 => u = .int .i64 (n1 : Nat)
    | 8 => u = .int .i64 (D : Nat)
    | 9 => u = .bool false
    | _ => True) (fun A B => Below A.heap.size A B) ?hC ?hV (fun _ => undef) ?h0 ?hop ?hend
  case hC => exact fun A B h h2 => h.trans (h2.mono h.size)
  case h0 => exact (Below.refl _ _).drew
  case hV =>
    intro i' u A B h hx
    match i', h with
    | 0, h => exact h
    | 1, h => exact h
    | 2, h => exact h
    | 3, h => exact h
    | 4, h => exact h
    | 5, h => exact h
    | 6, h => exact h
    | 7, h => exact h
    | 8, h => exact h
    | 9, h => exact h
    | n + 10, h => trivial
  case hop =>
    simp only [AllDo]
    refine ⟨?o0, ?o1, ?o2, ?o3, ?o4, ?o5, ?o6, ?o7, ?o8, ?o9, trivial⟩
    all_goals intro v W hc hd Q hQ
    all_goals simp [Region.binds] at hd
    all_goals rw [if_pos (show Region.wanted _ _ = true from rfl)]
    case o3 =>
      have rW := (hc.block N (by omega)).trans HB.out
      have k2 : W.cell? ⟨N, 2, none⟩ = some (.int .i64 (cap : Nat)) := cell_of_row W N 2 _ _ _ rW
      clear rW
      go_wp2
      first | exact ⟨_, rfl, Below.refl _ _, rfl⟩ | exact ⟨by simp_all [updV], Below.refl _ _⟩
    case o4 =>
      have rW := (hc.block N (by omega)).trans HB.out
      have k0 : W.cell? ⟨N, 0, none⟩ = some (.slice a0 n0 c0) := cell_of_row W (N) 0 _ _ _ rW
      have k1 : W.cell? ⟨N, 1, none⟩ = some (.slice a1 n1 c1) := cell_of_row W (N) 1 _ _ _ rW
      have k2 : W.cell? ⟨N, 2, none⟩ = some (.int .i64 (cap : Nat)) := cell_of_row W (N) 2 _ _ _ rW
      have k3 : W.cell? ⟨N, 3, none⟩ = some (.int .i64 lf) := cell_of_row W (N) 3 _ _ _ rW
      have k4 : W.cell? ⟨N, 4, none⟩ = some (.bool false) := cell_of_row W (N) 4 _ _ _ rW
      have k5 : W.cell? ⟨N, 5, none⟩ = some (.int .i64 (tn : Nat)) := cell_of_row W (N) 5 _ _ _ rW
      clear rW
      go_wp2
      first | exact ⟨_, rfl, Below.refl _ _, rfl⟩ | exact ⟨by simp_all [updV], Below.refl _ _⟩
    case o6 =>
      obtain ⟨h1, h2⟩ := hd
      go_wp2_with fail
      refine (HR.out W).mono ?_
      rintro e W' ⟨rfl, hb'⟩
      go_wp2
      refine ⟨.slice a1 n1 c1, ?_, hb', rfl⟩
      simp [updV, h1, h2]
    all_goals go_wp2
    all_goals (first | exact ⟨_, rfl, Below.refl _ _, rfl⟩ | exact ⟨by simp_all [updV], Below.refl _ _⟩)
  case hend =>
    intro v w2 hc hv
    have h9 : v 9 = .bool false := hv 9 (by decide)
    have rN := (hc.block N (by omega)).trans HB.out
    have rR := (hc.block (N + 1) (by omega)).trans HRR.out
    have k0 : w2.cell? ⟨N, 0, none⟩ = some (.slice a0 n0 c0) := cell_of_row w2 (N) 0 _ _ _ rN
    have k1 : w2.cell? ⟨N, 1, none⟩ = some (.slice a1 n1 c1) := cell_of_row w2 (N) 1 _ _ _ rN
    have k2 : w2.cell? ⟨N, 2, none⟩ = some (.int .i64 (cap : Nat)) := cell_of_row w2 (N) 2 _ _ _ rN
    have k3 : w2.cell? ⟨N, 3, none⟩ = some (.int .i64 lf) := cell_of_row w2 (N) 3 _ _ _ rN
    have k4 : w2.cell? ⟨N, 4, none⟩ = some (.bool false) := cell_of_row w2 (N) 4 _ _ _ rN
    have k5 : w2.cell? ⟨N, 5, none⟩ = some (.int .i64 (tn : Nat)) := cell_of_row w2 (N) 5 _ _ _ rN
    have HB2 := Lib.hid rN
    have HR2 := Lib.hid rR
    have hb0W := HB1.out.trans (hc.mono (by omega))
    have HB02 := Lib.hid hb0W
    have hz2 : N + 2 ≤ w2.heap.size := by have := hc.size; omega
    clear hc hv rN rR hb0W HB HRR HB1 HR
    dsimp only
    rw [h9]
    go_wp2_with fail
    refine (HT.out w2).mono ?_
    rintro e w3 ⟨rfl, hb3⟩
    have rB3 := (hb3.block N (by omega)).trans HB2.out
    have rR3 := (hb3.block (N + 1) (by omega)).trans HR2.out
    have hb03 : Below N w w3 := HB02.out.trans (hb3.mono (by omega))
    have hz3 : N + 2 ≤ w3.heap.size := by have := hb3.size; omega
    have k0 : w3.cell? ⟨N, 0, none⟩ = some (.slice a0 n0 c0) := cell_of_row w3 N 0 _ _ _ rB3
    have k1 : w3.cell? ⟨N, 1, none⟩ = some (.slice a1 n1 c1) := cell_of_row w3 N 1 _ _ _ rB3
    have k2 : w3.cell? ⟨N, 2, none⟩ = some (.int .i64 (cap : Nat)) := cell_of_row w3 N 2 _ _ _ rB3
    have k3 : w3.cell? ⟨N, 3, none⟩ = some (.int .i64 lf) := cell_of_row w3 N 3 _ _ _ rB3
    have k4 : w3.cell? ⟨N, 4, none⟩ = some (.bool false) := cell_of_row w3 N 4 _ _ _ rB3
    have k5 : w3.cell? ⟨N, 5, none⟩ = some (.int .i64 (tn : Nat)) := cell_of_row w3 N 5 _ _ _ rB3
    have f0 := frozen_of_row w3 N 0 _ _ rB3
    have f1 := frozen_of_row w3 N 1 _ _ rB3
    have f2 := frozen_of_row w3 N 2 _ _ rB3
    have f3 := frozen_of_row w3 N 3 _ _ rB3
    have f4 := frozen_of_row w3 N 4 _ _ rB3
    have f5 := frozen_of_row w3 N 5 _ _ rB3
    have HB3 := Lib.hid rB3
    have HR3 := Lib.hid rR3
    have HB03 := Lib.hid hb03
    clear rB3 rR3 hb03 hb3 HB2 HR2 HB02 HT
    go_wp2_with fail
    obtain ⟨w4, hw4⟩ : ∃ w4, ((((((w3.setCell ⟨N, 0, none⟩ (.slice a0 n0 c0)).setCell ⟨N, 1, none⟩ (.slice a1 n1 c1)).setCell ⟨N, 2, none⟩ (.int .i64 (cap : Nat))).setCell ⟨N, 3, none⟩ (.int .i64 LF)).setCell ⟨N, 4, none⟩ (.bool DN)).setCell ⟨N, 5, none⟩ (.int .i64 ((tn : Int) + (G : Int)))) = w4 := ⟨_, rfl⟩
    have rB4 : w4.heap[N]? = some (.cells #[.slice a0 n0 c0, .slice a1 n1 c1, .int .i64 (cap : Nat), .int .i64 LF, .bool DN, .int .i64 ((tn : Int) + (G : Int))] 32 (0, 0)) := by rw [← hw4]; exact heap_set6 HB3.out
    have hbut4 : But [N] w3 w4 := by rw [← hw4]; exact set6_but w3 N
    have rR4 := (hbut4.block (N + 1) (by omega) (by simp)).trans HR3.out
    have hb04 : Below N w w4 := by rw [← hw4]; exact set6_below HB03.out (Nat.le_refl _)
    have hz4 : N + 2 ≤ w4.heap.size := by have := hbut4.size; omega
    have hS4 : Sl encY w4.heap.size w4 (.slice a1 n1 c1) lr := by
      have h := HS.out
      rw [HNN.out] at h
      exact (h.below hb04).mono (by omega)
    have hT4 : Sl encY w4.heap.size w4 (.slice p G c) lt := by
      have h := HTL.out
      rw [HNN.out] at h
      exact (h.below hb04).mono (by omega)
    have HT4 := Lib.hid hT4
    rw [hw4]
    have HB4 := Lib.hid rB4
    have HR4 := Lib.hid rR4
    have HB04 := Lib.hid hb04
    have HS4 := Lib.hid hS4
    clear hw4 rB4 rR4 hb04 hS4 hT4 hbut4 HB3 HR3 HB03 k0 k1 k2 k3 k4 k5 f0 f1 f2 f3 f4 f5
    refine region_tail1 (l := [_, _, _, _, _, _, _, _, _, _, _]) (s := _) (by kernel_rfl) (by decide +kernel) (by decide +kernel) (fun v' => { tmps := #[rdV (.slice a0 n0 c0) (.slice a1 n1 c1) cap lf false tn, .int .i64 1, .slice p m c, .pointer (some ⟨N, 0, none⟩), undef, undef, .pointer (some ⟨N + 1, 0, none⟩), .int .i64 0, .int .i64 (G : Nat), .pointer (some ⟨N, 4, none⟩), .bool false, undef, .int .i64 1, .bool true, .bool true, .int .i64 1, .bool false, .bool false, undef, v 0, v 1, v 2, v 3, v 4, v 5, v 6, v 7, v 8, .bool false, undef, .tuple #[rdV (.slice a0 n0 c0) (.slice a1 n1 c1) cap LF DN (tn + G), .int .i64 (G : Nat)], .agg #[.slice a0 n0 c0, .slice a1 n1 c1, .int .i64 (cap : Nat), .int .i64 lf, .bool false, .int .i64 (tn : Nat)], .slice p m c, .int .i64 (m : Nat), .tuple #[rdV (.slice a0 n0 c0) (.slice a1 n1 c1) cap LF DN (tn + G), .int .i64 (G : Nat)], rdV (.slice a0 n0 c0) (.slice a1 n1 c1) cap LF DN (tn + G), .int .i64 (G : Nat), v' 0, v' 1, v' 2, v' 3, v' 4, v' 5, v' 6, v' 7, v' 8, v' 9, v' 10, undef, undef, undef, undef], defers := [] }) (fun W => Below w4.heap.size w4 W) (fun i' u W => match i' with
      | 0 => u = (.agg #[.slice a0 n0 c0, .slice a1 n1 c1, .int .i64 (cap : Nat), .int .i64 LF, .bool DN, .int .i64 ((tn : Int) + (G : Int))])
      | 1 => u = .int .i64 1
      | 2 => u = (.agg #[.slice a0 n0 c0, .slice a1 n1 c1, .int .i64 (cap : Nat), .int .i64 LF, .bool DN, .int .i64 ((tn : Int) + (G : Int))])
      | 3 => u = .int .i64 1
      | 4 => u = .slice a1 n1 c1
      | 5 => u = .slice p m c
      | 6 => u = .int .i64 (G : Nat)
      | 7 => u = .slice p G c
      | 8 => ∃ B, u = .slice (some ⟨B, 0, none⟩) 2 2 ∧ Parts W.heap.size W (.slice (some ⟨B, 0, none⟩) 2 2) [lr, lt]
      | 9 => ∃ q k d, u = .slice q k d ∧ W.ownsRow N 5 1 (.slice q k d) LL.length (LL.map encY)
      | 10 => ∃ q k d, u = (.agg #[putA 1 (.slice q k d) (.slice a0 n0 c0), putB 1 (.slice q k d) (.slice a1 n1 c1), .int .i64 (cap : Nat), .int .i64 LF, .bool DN, .int .i64 ((tn : Int) + (G : Int))]) ∧ W.ownsRow N 5 1 (.slice q k d) LL.length (LL.map encY)
      | _ => True) (fun A B => Below A.heap.size A B) ?hC8 ?hV8 (fun _ => undef) ?h08 ?hop8 ?hend8
    case hC8 => exact fun A B h h2 => h.trans (h2.mono h.size)
    case h08 => exact (Below.refl _ _).drew
    case hV8 =>
      intro i' u A B h hx
      match i', h with
      | 0, h => exact h
      | 1, h => exact h
      | 2, h => exact h
      | 3, h => exact h
      | 4, h => exact h
      | 5, h => exact h
      | 6, h => exact h
      | 7, h => exact h
      | 8, ⟨b, e, h⟩ => exact ⟨b, e, (h.below hx).mono hx.size⟩
      | 9, ⟨q, k, d, e, h⟩ => exact ⟨q, k, d, e, ownsRow_below h hx (Nat.le_refl _)⟩
      | 10, ⟨q, k, d, e, h⟩ => exact ⟨q, k, d, e, ownsRow_below h hx (Nat.le_refl _)⟩
      | n + 11, h => trivial
    case hop8 =>
      have hGc : (G : Int) ≤ c := by omega
      have hG0 : (0 : Int) ≤ G := by omega
      simp only [AllDo]
      refine ⟨?e0, ?e1, ?e2, ?e3, ?e4, ?e5, ?e6, ?e7, ?e8, ?e9, ?e10, trivial⟩
      all_goals intro v' W hc hd Q hQ
      all_goals simp [Region.binds] at hd
      all_goals rw [if_pos (show Region.wanted _ _ = true from rfl)]
      case e0 =>
        have rW := (hc.block N (by omega)).trans HB4.out
        have k0 : W.cell? ⟨N, 0, none⟩ = some (.slice a0 n0 c0) := cell_of_row W N 0 _ _ _ rW
        have k1 : W.cell? ⟨N, 1, none⟩ = some (.slice a1 n1 c1) := cell_of_row W N 1 _ _ _ rW
        have k2 : W.cell? ⟨N, 2, none⟩ = some (.int .i64 (cap : Nat)) := cell_of_row W N 2 _ _ _ rW
        have k3 : W.cell? ⟨N, 3, none⟩ = some (.int .i64 LF) := cell_of_row W N 3 _ _ _ rW
        have k4 : W.cell? ⟨N, 4, none⟩ = some (.bool DN) := cell_of_row W N 4 _ _ _ rW
        have k5 : W.cell? ⟨N, 5, none⟩ = some (.int .i64 ((tn : Int) + (G : Int))) := cell_of_row W N 5 _ _ _ rW
        clear rW
        go_wp2
        first | exact ⟨_, rfl, Below.refl _ _, rfl⟩ | exact ⟨by simp_all [updV], Below.refl _ _⟩
      case e2 =>
        have rW := (hc.block N (by omega)).trans HB4.out
        have k0 : W.cell? ⟨N, 0, none⟩ = some (.slice a0 n0 c0) := cell_of_row W N 0 _ _ _ rW
        have k1 : W.cell? ⟨N, 1, none⟩ = some (.slice a1 n1 c1) := cell_of_row W N 1 _ _ _ rW
        have k2 : W.cell? ⟨N, 2, none⟩ = some (.int .i64 (cap : Nat)) := cell_of_row W N 2 _ _ _ rW
        have k3 : W.cell? ⟨N, 3, none⟩ = some (.int .i64 LF) := cell_of_row W N 3 _ _ _ rW
        have k4 : W.cell? ⟨N, 4, none⟩ = some (.bool DN) := cell_of_row W N 4 _ _ _ rW
        have k5 : W.cell? ⟨N, 5, none⟩ = some (.int .i64 ((tn : Int) + (G : Int))) := cell_of_row W N 5 _ _ _ rW
        clear rW
        go_wp2
        first | exact ⟨_, rfl, Below.refl _ _, rfl⟩ | exact ⟨by simp_all [updV], Below.refl _ _⟩
      case e4 =>
        have hrw := rrow_any (.slice a0 n0 c0) (.slice a1 n1 c1) ⟨_, _, _, rfl⟩ ⟨_, _, _, rfl⟩ cap LF DN (tn + G) 1 W
        obtain ⟨h1, h2⟩ := hd
        go_wp2_with fail
        refine hrw.mono ?_
        rintro e W' ⟨rfl, hb'⟩
        rw [show rowV (.slice a0 n0 c0) (.slice a1 n1 c1) 1 = .slice a1 n1 c1 from rfl]
        go_wp2
        refine ⟨.slice a1 n1 c1, ?_, hb', rfl⟩
        simp [updV, h1, h2]
      case e8 =>
        obtain ⟨h1, h2⟩ := hd
        go_wp2
        refine ⟨.slice (some ⟨W.heap.size, 0, none⟩) 2 2, ?_, (Below.refl _ _).alloc (Nat.le_refl _) _, _, rfl, Parts.two W _ _ lr lt _ (hS_step HS4.out hc) (hS_step HT4.out hc)⟩
        simp [updV, h1, h2]
      case e9 =>
        obtain ⟨⟨B, h1, h2⟩, h3⟩ := hd
        go_wp2_with fail
        refine (joinY_any _ 2 2 [lr, lt] (by simp; omega) (by simp) W h2).mono ?_
        rintro e W' ⟨vv, rfl, hown, hb'⟩
        rw [show [lr, lt].flatten = LL from by rw [← HLL.out]; simp] at hown
        obtain ⟨q, k, d, rfl⟩ := rowForm hown
        go_wp2
        refine ⟨.slice q k d, ?_, hb', q, k, d, rfl, ownsRow_base hown (by have := hc.size; omega)⟩
        simp [updV, h1, h3]
      case e10 =>
        obtain ⟨h0, h1, ⟨q, k, d, h3, h4⟩⟩ := hd
        have hset := rset_any (.slice a0 n0 c0) (.slice a1 n1 c1) ⟨_, _, _, rfl⟩ ⟨_, _, _, rfl⟩ cap LF DN (tn + G) 1 q k d W
        go_wp2_with fail
        refine hset.mono ?_
        rintro e W' ⟨rfl, hb'⟩
        have H4 := Lib.hid (⟨q, k, d, rfl, ownsRow_below h4 hb' (Nat.le_refl _)⟩ : ∃ q' k' d', rdV (putA 1 (.slice q k d) (.slice a0 n0 c0)) (putB 1 (.slice q k d) (.slice a1 n1 c1)) cap LF DN (tn + G) = rdV (putA 1 (.slice q' k' d') (.slice a0 n0 c0)) (putB 1 (.slice q' k' d') (.slice a1 n1 c1)) cap LF DN (tn + G) ∧ W'.ownsRow N 5 1 (.slice q' k' d') LL.length (LL.map encY))
        obtain ⟨XV, hXV⟩ : ∃ XV, rdV (putA 1 (.slice q k d) (.slice a0 n0 c0)) (putB 1 (.slice q k d) (.slice a1 n1 c1)) cap LF DN (tn + G) = XV := ⟨_, rfl⟩
        rw [hXV] at H4 ⊢
        clear hXV hset
        go_wp2
        refine ⟨XV, ?_, hb', H4.out⟩
        simp [updV, h0, h1, h3]
      all_goals go_wp2
      all_goals (first | exact ⟨_, rfl, Below.refl _ _, rfl⟩ | exact ⟨by simp_all [updV], Below.refl _ _⟩)
    case hend8 =>
      intro v' W hc hv
      obtain ⟨q, k, d, e4, hown⟩ := hv 10 (by decide)
      have HOWN := Lib.hid hown
      have rN := (hc.block N (by omega)).trans HB4.out
      have rR := (hc.block (N + 1) (by omega)).trans HR4.out
      have HRN := Lib.hid rN
      have HRR := Lib.hid rR
      have k0 : W.cell? ⟨N, 0, none⟩ = some (.slice a0 n0 c0) := cell_of_row W (N) 0 _ _ _ rN
      have k1 : W.cell? ⟨N, 1, none⟩ = some (.slice a1 n1 c1) := cell_of_row W (N) 1 _ _ _ rN
      have k2 : W.cell? ⟨N, 2, none⟩ = some (.int .i64 (cap : Nat)) := cell_of_row W (N) 2 _ _ _ rN
      have k3 : W.cell? ⟨N, 3, none⟩ = some (.int .i64 LF) := cell_of_row W (N) 3 _ _ _ rN
      have k4 : W.cell? ⟨N, 4, none⟩ = some (.bool DN) := cell_of_row W (N) 4 _ _ _ rN
      have k5 : W.cell? ⟨N, 5, none⟩ = some (.int .i64 ((tn : Int) + (G : Int))) := cell_of_row W (N) 5 _ _ _ rN
      have f0 := frozen_of_row W (N) 0 _ _ rN
      have f1 := frozen_of_row W (N) 1 _ _ rN
      have f2 := frozen_of_row W (N) 2 _ _ rN
      have f3 := frozen_of_row W (N) 3 _ _ rN
      have f4 := frozen_of_row W (N) 4 _ _ rN
      have f5 := frozen_of_row W (N) 5 _ _ rN
      have r0 : W.cell? ⟨N + 1, 0, none⟩ = some (.slice none 0 0) := cell_of_row W (N + 1) 0 _ _ _ rR
      have r1 : W.cell? ⟨N + 1, 1, none⟩ = some (.slice none 0 0) := cell_of_row W (N + 1) 1 _ _ _ rR
      have r2 : W.cell? ⟨N + 1, 2, none⟩ = some (.int .i64 0) := cell_of_row W (N + 1) 2 _ _ _ rR
      have r3 : W.cell? ⟨N + 1, 3, none⟩ = some (.int .i64 0) := cell_of_row W (N + 1) 3 _ _ _ rR
      have r4 : W.cell? ⟨N + 1, 4, none⟩ = some (.bool false) := cell_of_row W (N + 1) 4 _ _ _ rR
      have r5 : W.cell? ⟨N + 1, 5, none⟩ = some (.int .i64 0) := cell_of_row W (N + 1) 5 _ _ _ rR
      have g0 := frozen_of_row W (N + 1) 0 _ _ rR
      have g1 := frozen_of_row W (N + 1) 1 _ _ rR
      have g2 := frozen_of_row W (N + 1) 2 _ _ rR
      have g3 := frozen_of_row W (N + 1) 3 _ _ rR
      have g4 := frozen_of_row W (N + 1) 4 _ _ rR
      have g5 := frozen_of_row W (N + 1) 5 _ _ rR
      obtain ⟨xa, xn, xc, hXA⟩ := putA_form 1 q a0 k d n0 c0
      obtain ⟨ya, yn, yc, hXB⟩ := putB_form 1 q a1 k d n1 c1
      have HXA := Lib.hid hXA
      have HXB := Lib.hid hXB
      rw [hXA, hXB] at e4
      have HC := Lib.hid hc
      have hb0W := HB04.out.trans (hc.mono (by omega))
      have HBW := Lib.hid hb0W
      have hNW : N + 1 < W.heap.size := by have := hc.size; omega
      clear hc hv hown rN rR hXA hXB hb0W HB4 HR4 HS4 HT4 HB04
      intro Qx hQx
      rw [if_pos (show Region.wanted _ _ = true from rfl)]
      cases DN with
      | true =>
        go_wp2
        refine bodyPost_ret (rd_res2 _ 6 7 rfl _ _ (N + 1) _ _ _ _ _ _ _ rfl rfl (heap_set6 (((set6_but W N).block (N + 1) hNW (by simp)).trans HRR.out))) rfl ?_
        refine ⟨q, k, d, ?_, ?_, ?_⟩
        · rw [HXA.out, HXB.out]; rfl
        · rw [HNN.out]
          exact row_far (row_far HOWN.out HRN.out (by decide) (set6_but W N)) (((set6_but W N).block (N + 1) hNW (by simp)).trans HRR.out) (by decide) (set6_but _ (N + 1))
        · rw [HNN.out]
          exact set6_below (set6_below HBW.out (Nat.le_refl _)) (by omega)
      | false =>
        go_wp2
        refine bodyPost_ret (rd_res2 _ 6 7 rfl _ _ (N + 1) _ _ _ _ _ _ _ rfl rfl (heap_set6 (((set6_but W N).block (N + 1) hNW (by simp)).trans HRR.out))) rfl ?_
        refine ⟨q, k, d, ?_, ?_, ?_⟩
        · rw [HXA.out, HXB.out]; rfl
        · rw [HNN.out]
          exact row_far (row_far HOWN.out HRN.out (by decide) (set6_but W N)) (((set6_but W N).block (N + 1) hNW (by simp)).trans HRR.out) (by decide) (set6_but _ (N + 1))
        · rw [HNN.out]
          exact set6_below (set6_below HBW.out (Nat.le_refl _)) (by omega)


end Go.Proofs.Ytdimjeppcfacdaa
