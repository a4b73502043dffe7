/- The document's own device: Truncate, refused. -/
import Derived.Test.YtdimjeppcfacdaaRefDt
namespace Go.Proofs.Ytdimjeppcfacdaa
open Go.RowKit
set_option linter.unusedVariables false
attribute [local go_sem] Oper.semAt_some

set_option maxRecDepth 100000 in
set_option maxHeartbeats 4000000 in
theorem rtrunc_reg (a0 a1 : Option Addr) (n0 c0 n1 c1 : Nat) (cap : Nat) (lf : Int) (tn : Nat) (i : Int) (hi0 : ¬ i = 0) (hi1 : ¬ i = 1) (n : Int) (w : World) :
    Calls Try.prog 89 #[rdV (.slice a0 n0 c0) (.slice a1 n1 c1) cap lf false tn, .int .i64 i, .int .i64 n] w fun e w' => e = .returned (.tuple #[rdV (.slice a0 n0 c0) (.slice a1 n1 c1) cap lf false tn, .int .i64 1]) ∧ Below w.heap.size w w' := by
  have hz := zrd
  have HR := Lib.hid (rrow_any (.slice a0 n0 c0) (.slice a1 n1 c1) ⟨_, _, _, rfl⟩ ⟨_, _, _, rfl⟩ cap lf false tn i)
  rw [show rowV (.slice a0 n0 c0) (.slice a1 n1 c1) i = .slice none 0 0 from by unfold rowV; rw [if_neg hi0, if_neg hi1]] at HR
  obtain ⟨N, hN⟩ : ∃ N, w.heap.size = N := ⟨_, rfl⟩
  have HNN := Lib.hid hN
  clear hN
  go_enter Try.func89, Try.ntmps89
  go_wp2_with fail
  have hN := HNN.out
  obtain ⟨w1, hw1⟩ : ∃ w1, (w.alloc (.cells #[.slice a0 n0 c0, .slice a1 n1 c1, .int .i64 (cap : Nat), .int .i64 lf, .bool false, .int .i64 (tn : Nat)] 32)).alloc (.cells #[.slice none 0 0, .slice none 0 0, .int .i64 0, .int .i64 0, .bool false, .int .i64 0] 32) = w1 := ⟨_, rfl⟩
  have rB : w1.heap[N]? = some (.cells #[.slice a0 n0 c0, .slice a1 n1 c1, .int .i64 (cap : Nat), .int .i64 lf, .bool false, .int .i64 (tn : Nat)] 32 (0, 0)) := by rw [← hw1, ← hN, Below.heap_alloc _ _ _ (by simp)]; exact World.alloc_heap_new w _
  have rR : w1.heap[N + 1]? = some (.cells #[.slice none 0 0, .slice none 0 0, .int .i64 0, .int .i64 0, .bool false, .int .i64 0] 32 (0, 0)) := by rw [← hw1, ← hN]; exact new2 _ _ _
  have hb1 : Below N w w1 := by rw [← hw1, ← hN]; exact new2_below _ _ _
  have hz1 : w1.heap.size = N + 2 := by rw [← hw1, ← hN]; simp
  try rw [hN]
  rw [hw1]
  clear hw1 hN
  refine (HR.out w1).mono ?_
  rintro e w2 ⟨rfl, hb2⟩
  have rB2 := (hb2.block N (by omega)).trans rB
  have rR2 := (hb2.block (N + 1) (by omega)).trans rR
  have hb02 : Below N w w2 := hb1.trans (hb2.mono (by omega))
  have k0 : w2.cell? ⟨N, 0, none⟩ = some (.slice a0 n0 c0) := cell_of_row w2 (N) 0 _ _ _ rB2
  have k1 : w2.cell? ⟨N, 1, none⟩ = some (.slice a1 n1 c1) := cell_of_row w2 (N) 1 _ _ _ rB2
  have k2 : w2.cell? ⟨N, 2, none⟩ = some (.int .i64 (cap : Nat)) := cell_of_row w2 (N) 2 _ _ _ rB2
  have k3 : w2.cell? ⟨N, 3, none⟩ = some (.int .i64 lf) := cell_of_row w2 (N) 3 _ _ _ rB2
  have k4 : w2.cell? ⟨N, 4, none⟩ = some (.bool false) := cell_of_row w2 (N) 4 _ _ _ rB2
  have k5 : w2.cell? ⟨N, 5, none⟩ = some (.int .i64 (tn : Nat)) := cell_of_row w2 (N) 5 _ _ _ rB2
  have r0 : w2.cell? ⟨N + 1, 0, none⟩ = some (.slice none 0 0) := cell_of_row w2 (N + 1) 0 _ _ _ rR2
  have r1 : w2.cell? ⟨N + 1, 1, none⟩ = some (.slice none 0 0) := cell_of_row w2 (N + 1) 1 _ _ _ rR2
  have r2 : w2.cell? ⟨N + 1, 2, none⟩ = some (.int .i64 0) := cell_of_row w2 (N + 1) 2 _ _ _ rR2
  have r3 : w2.cell? ⟨N + 1, 3, none⟩ = some (.int .i64 0) := cell_of_row w2 (N + 1) 3 _ _ _ rR2
  have r4 : w2.cell? ⟨N + 1, 4, none⟩ = some (.bool false) := cell_of_row w2 (N + 1) 4 _ _ _ rR2
  have r5 : w2.cell? ⟨N + 1, 5, none⟩ = some (.int .i64 0) := cell_of_row w2 (N + 1) 5 _ _ _ rR2
  have g0 := frozen_of_row w2 (N + 1) 0 _ _ rR2
  have g1 := frozen_of_row w2 (N + 1) 1 _ _ rR2
  have g2 := frozen_of_row w2 (N + 1) 2 _ _ rR2
  have g3 := frozen_of_row w2 (N + 1) 3 _ _ rR2
  have g4 := frozen_of_row w2 (N + 1) 4 _ _ rR2
  have g5 := frozen_of_row w2 (N + 1) 5 _ _ rR2
  have HR2 := Lib.hid rR2
  have HB02 := Lib.hid hb02
  clear rB2 rR2 hb02 hb2 rB rR hb1 HR
  go_wp2
  all_goals refine bodyPost_ret (rd_res2 _ 6 7 rfl _ _ (N + 1) _ _ _ _ _ _ _ rfl rfl (heap_set6 HR2.out)) rfl ?_
  all_goals exact ⟨rfl, by rw [HNN.out]; exact set6_below HB02.out (by omega)⟩

set_option maxRecDepth 100000 in
set_option maxHeartbeats 4000000 in
theorem rtrunc_neg0 (a0 a1 : Option Addr) (n0 c0 n1 c1 : Nat) (cap : Nat) (lf : Int) (tn : Nat) (n : Int) (hn : n < 0) (w : World) :
    Calls Try.prog 89 #[rdV (.slice a0 n0 c0) (.slice a1 n1 c1) cap lf false tn, .int .i64 0, .int .i64 n] w fun e w' => e = .returned (.tuple #[rdV (.slice a0 n0 c0) (.slice a1 n1 c1) cap lf false tn, .int .i64 1]) ∧ Below w.heap.size w w' := by
  have hz := zrd
  have HR := Lib.hid (rrow_any (.slice a0 n0 c0) (.slice a1 n1 c1) ⟨_, _, _, rfl⟩ ⟨_, _, _, rfl⟩ cap lf false tn 0)
  rw [show rowV (.slice a0 n0 c0) (.slice a1 n1 c1) 0 = .slice a0 n0 c0 from rfl] at HR
  obtain ⟨N, hN⟩ : ∃ N, w.heap.size = N := ⟨_, rfl⟩
  have HNN := Lib.hid hN
  clear hN
  go_enter Try.func89, Try.ntmps89
  go_wp2_with fail
  have hN := HNN.out
  obtain ⟨w1, hw1⟩ : ∃ w1, (w.alloc (.cells #[.slice a0 n0 c0, .slice a1 n1 c1, .int .i64 (cap : Nat), .int .i64 lf, .bool false, .int .i64 (tn : Nat)] 32)).alloc (.cells #[.slice none 0 0, .slice none 0 0, .int .i64 0, .int .i64 0, .bool false, .int .i64 0] 32) = w1 := ⟨_, rfl⟩
  have rB : w1.heap[N]? = some (.cells #[.slice a0 n0 c0, .slice a1 n1 c1, .int .i64 (cap : Nat), .int .i64 lf, .bool false, .int .i64 (tn : Nat)] 32 (0, 0)) := by rw [← hw1, ← hN, Below.heap_alloc _ _ _ (by simp)]; exact World.alloc_heap_new w _
  have rR : w1.heap[N + 1]? = some (.cells #[.slice none 0 0, .slice none 0 0, .int .i64 0, .int .i64 0, .bool false, .int .i64 0] 32 (0, 0)) := by rw [← hw1, ← hN]; exact new2 _ _ _
  have hb1 : Below N w w1 := by rw [← hw1, ← hN]; exact new2_below _ _ _
  have hz1 : w1.heap.size = N + 2 := by rw [← hw1, ← hN]; simp
  try rw [hN]
  rw [hw1]
  clear hw1 hN
  refine (HR.out w1).mono ?_
  rintro e w2 ⟨rfl, hb2⟩
  have rB2 := (hb2.block N (by omega)).trans rB
  have rR2 := (hb2.block (N + 1) (by omega)).trans rR
  have hb02 : Below N w w2 := hb1.trans (hb2.mono (by omega))
  have k0 : w2.cell? ⟨N, 0, none⟩ = some (.slice a0 n0 c0) := cell_of_row w2 (N) 0 _ _ _ rB2
  have k1 : w2.cell? ⟨N, 1, none⟩ = some (.slice a1 n1 c1) := cell_of_row w2 (N) 1 _ _ _ rB2
  have k2 : w2.cell? ⟨N, 2, none⟩ = some (.int .i64 (cap : Nat)) := cell_of_row w2 (N) 2 _ _ _ rB2
  have k3 : w2.cell? ⟨N, 3, none⟩ = some (.int .i64 lf) := cell_of_row w2 (N) 3 _ _ _ rB2
  have k4 : w2.cell? ⟨N, 4, none⟩ = some (.bool false) := cell_of_row w2 (N) 4 _ _ _ rB2
  have k5 : w2.cell? ⟨N, 5, none⟩ = some (.int .i64 (tn : Nat)) := cell_of_row w2 (N) 5 _ _ _ rB2
  have r0 : w2.cell? ⟨N + 1, 0, none⟩ = some (.slice none 0 0) := cell_of_row w2 (N + 1) 0 _ _ _ rR2
  have r1 : w2.cell? ⟨N + 1, 1, none⟩ = some (.slice none 0 0) := cell_of_row w2 (N + 1) 1 _ _ _ rR2
  have r2 : w2.cell? ⟨N + 1, 2, none⟩ = some (.int .i64 0) := cell_of_row w2 (N + 1) 2 _ _ _ rR2
  have r3 : w2.cell? ⟨N + 1, 3, none⟩ = some (.int .i64 0) := cell_of_row w2 (N + 1) 3 _ _ _ rR2
  have r4 : w2.cell? ⟨N + 1, 4, none⟩ = some (.bool false) := cell_of_row w2 (N + 1) 4 _ _ _ rR2
  have r5 : w2.cell? ⟨N + 1, 5, none⟩ = some (.int .i64 0) := cell_of_row w2 (N + 1) 5 _ _ _ rR2
  have g0 := frozen_of_row w2 (N + 1) 0 _ _ rR2
  have g1 := frozen_of_row w2 (N + 1) 1 _ _ rR2
  have g2 := frozen_of_row w2 (N + 1) 2 _ _ rR2
  have g3 := frozen_of_row w2 (N + 1) 3 _ _ rR2
  have g4 := frozen_of_row w2 (N + 1) 4 _ _ rR2
  have g5 := frozen_of_row w2 (N + 1) 5 _ _ rR2
  have HR2 := Lib.hid rR2
  have HB02 := Lib.hid hb02
  clear rB2 rR2 hb02 hb2 rB rR hb1 HR
  go_wp2
  all_goals refine bodyPost_ret (rd_res2 _ 6 7 rfl _ _ (N + 1) _ _ _ _ _ _ _ rfl rfl (heap_set6 HR2.out)) rfl ?_
  all_goals exact ⟨rfl, by rw [HNN.out]; exact set6_below HB02.out (by omega)⟩

set_option maxRecDepth 100000 in
set_option maxHeartbeats 4000000 in
theorem rtrunc_neg1 (a0 a1 : Option Addr) (n0 c0 n1 c1 : Nat) (cap : Nat) (lf : Int) (tn : Nat) (n : Int) (hn : n < 0) (w : World) :
    Calls Try.prog 89 #[rdV (.slice a0 n0 c0) (.slice a1 n1 c1) cap lf false tn, .int .i64 1, .int .i64 n] w fun e w' => e = .returned (.tuple #[rdV (.slice a0 n0 c0) (.slice a1 n1 c1) cap lf false tn, .int .i64 1]) ∧ Below w.heap.size w w' := by
  have hz := zrd
  have HR := Lib.hid (rrow_any (.slice a0 n0 c0) (.slice a1 n1 c1) ⟨_, _, _, rfl⟩ ⟨_, _, _, rfl⟩ cap lf false tn 1)
  rw [show rowV (.slice a0 n0 c0) (.slice a1 n1 c1) 1 = .slice a1 n1 c1 from rfl] at HR
  obtain ⟨N, hN⟩ : ∃ N, w.heap.size = N := ⟨_, rfl⟩
  have HNN := Lib.hid hN
  clear hN
  go_enter Try.func89, Try.ntmps89
  go_wp2_with fail
  have hN := HNN.out
  obtain ⟨w1, hw1⟩ : ∃ w1, (w.alloc (.cells #[.slice a0 n0 c0, .slice a1 n1 c1, .int .i64 (cap : Nat), .int .i64 lf, .bool false, .int .i64 (tn : Nat)] 32)).alloc (.cells #[.slice none 0 0, .slice none 0 0, .int .i64 0, .int .i64 0, .bool false, .int .i64 0] 32) = w1 := ⟨_, rfl⟩
  have rB : w1.heap[N]? = some (.cells #[.slice a0 n0 c0, .slice a1 n1 c1, .int .i64 (cap : Nat), .int .i64 lf, .bool false, .int .i64 (tn : Nat)] 32 (0, 0)) := by rw [← hw1, ← hN, Below.heap_alloc _ _ _ (by simp)]; exact World.alloc_heap_new w _
  have rR : w1.heap[N + 1]? = some (.cells #[.slice none 0 0, .slice none 0 0, .int .i64 0, .int .i64 0, .bool false, .int .i64 0] 32 (0, 0)) := by rw [← hw1, ← hN]; exact new2 _ _ _
  have hb1 : Below N w w1 := by rw [← hw1, ← hN]; exact new2_below _ _ _
  have hz1 : w1.heap.size = N + 2 := by rw [← hw1, ← hN]; simp
  try rw [hN]
  rw [hw1]
  clear hw1 hN
  refine (HR.out w1).mono ?_
  rintro e w2 ⟨rfl, hb2⟩
  have rB2 := (hb2.block N (by omega)).trans rB
  have rR2 := (hb2.block (N + 1) (by omega)).trans rR
  have hb02 : Below N w w2 := hb1.trans (hb2.mono (by omega))
  have k0 : w2.cell? ⟨N, 0, none⟩ = some (.slice a0 n0 c0) := cell_of_row w2 (N) 0 _ _ _ rB2
  have k1 : w2.cell? ⟨N, 1, none⟩ = some (.slice a1 n1 c1) := cell_of_row w2 (N) 1 _ _ _ rB2
  have k2 : w2.cell? ⟨N, 2, none⟩ = some (.int .i64 (cap : Nat)) := cell_of_row w2 (N) 2 _ _ _ rB2
  have k3 : w2.cell? ⟨N, 3, none⟩ = some (.int .i64 lf) := cell_of_row w2 (N) 3 _ _ _ rB2
  have k4 : w2.cell? ⟨N, 4, none⟩ = some (.bool false) := cell_of_row w2 (N) 4 _ _ _ rB2
  have k5 : w2.cell? ⟨N, 5, none⟩ = some (.int .i64 (tn : Nat)) := cell_of_row w2 (N) 5 _ _ _ rB2
  have r0 : w2.cell? ⟨N + 1, 0, none⟩ = some (.slice none 0 0) := cell_of_row w2 (N + 1) 0 _ _ _ rR2
  have r1 : w2.cell? ⟨N + 1, 1, none⟩ = some (.slice none 0 0) := cell_of_row w2 (N + 1) 1 _ _ _ rR2
  have r2 : w2.cell? ⟨N + 1, 2, none⟩ = some (.int .i64 0) := cell_of_row w2 (N + 1) 2 _ _ _ rR2
  have r3 : w2.cell? ⟨N + 1, 3, none⟩ = some (.int .i64 0) := cell_of_row w2 (N + 1) 3 _ _ _ rR2
  have r4 : w2.cell? ⟨N + 1, 4, none⟩ = some (.bool false) := cell_of_row w2 (N + 1) 4 _ _ _ rR2
  have r5 : w2.cell? ⟨N + 1, 5, none⟩ = some (.int .i64 0) := cell_of_row w2 (N + 1) 5 _ _ _ rR2
  have g0 := frozen_of_row w2 (N + 1) 0 _ _ rR2
  have g1 := frozen_of_row w2 (N + 1) 1 _ _ rR2
  have g2 := frozen_of_row w2 (N + 1) 2 _ _ rR2
  have g3 := frozen_of_row w2 (N + 1) 3 _ _ rR2
  have g4 := frozen_of_row w2 (N + 1) 4 _ _ rR2
  have g5 := frozen_of_row w2 (N + 1) 5 _ _ rR2
  have HR2 := Lib.hid rR2
  have HB02 := Lib.hid hb02
  clear rB2 rR2 hb02 hb2 rB rR hb1 HR
  go_wp2
  all_goals refine bodyPost_ret (rd_res2 _ 6 7 rfl _ _ (N + 1) _ _ _ _ _ _ _ rfl rfl (heap_set6 HR2.out)) rfl ?_
  all_goals exact ⟨rfl, by rw [HNN.out]; exact set6_below HB02.out (by omega)⟩

set_option maxRecDepth 100000 in
set_option maxHeartbeats 4000000 in
theorem rtrunc_big0 (a0 a1 : Option Addr) (n0 c0 n1 c1 : Nat) (cap : Nat) (lf : Int) (tn : Nat) (n : Int) (hn : (n0 : Int) < n) (w : World) :
    Calls Try.prog 89 #[rdV (.slice a0 n0 c0) (.slice a1 n1 c1) cap lf false tn, .int .i64 0, .int .i64 n] w fun e w' => e = .returned (.tuple #[rdV (.slice a0 n0 c0) (.slice a1 n1 c1) cap lf false tn, .int .i64 1]) ∧ Below w.heap.size w w' := by
  have hz := zrd
  have HR := Lib.hid (rrow_any (.slice a0 n0 c0) (.slice a1 n1 c1) ⟨_, _, _, rfl⟩ ⟨_, _, _, rfl⟩ cap lf false tn 0)
  rw [show rowV (.slice a0 n0 c0) (.slice a1 n1 c1) 0 = .slice a0 n0 c0 from rfl] at HR
  obtain ⟨N, hN⟩ : ∃ N, w.heap.size = N := ⟨_, rfl⟩
  have HNN := Lib.hid hN
  clear hN
  go_enter Try.func89, Try.ntmps89
  go_wp2_with fail
  have hN := HNN.out
  obtain ⟨w1, hw1⟩ : ∃ w1, (w.alloc (.cells #[.slice a0 n0 c0, .slice a1 n1 c1, .int .i64 (cap : Nat), .int .i64 lf, .bool false, .int .i64 (tn : Nat)] 32)).alloc (.cells #[.slice none 0 0, .slice none 0 0, .int .i64 0, .int .i64 0, .bool false, .int .i64 0] 32) = w1 := ⟨_, rfl⟩
  have rB : w1.heap[N]? = some (.cells #[.slice a0 n0 c0, .slice a1 n1 c1, .int .i64 (cap : Nat), .int .i64 lf, .bool false, .int .i64 (tn : Nat)] 32 (0, 0)) := by rw [← hw1, ← hN, Below.heap_alloc _ _ _ (by simp)]; exact World.alloc_heap_new w _
  have rR : w1.heap[N + 1]? = some (.cells #[.slice none 0 0, .slice none 0 0, .int .i64 0, .int .i64 0, .bool false, .int .i64 0] 32 (0, 0)) := by rw [← hw1, ← hN]; exact new2 _ _ _
  have hb1 : Below N w w1 := by rw [← hw1, ← hN]; exact new2_below _ _ _
  have hz1 : w1.heap.size = N + 2 := by rw [← hw1, ← hN]; simp
  try rw [hN]
  rw [hw1]
  clear hw1 hN
  refine (HR.out w1).mono ?_
  rintro e w2 ⟨rfl, hb2⟩
  have rB2 := (hb2.block N (by omega)).trans rB
  have rR2 := (hb2.block (N + 1) (by omega)).trans rR
  have hb02 : Below N w w2 := hb1.trans (hb2.mono (by omega))
  have k0 : w2.cell? ⟨N, 0, none⟩ = some (.slice a0 n0 c0) := cell_of_row w2 (N) 0 _ _ _ rB2
  have k1 : w2.cell? ⟨N, 1, none⟩ = some (.slice a1 n1 c1) := cell_of_row w2 (N) 1 _ _ _ rB2
  have k2 : w2.cell? ⟨N, 2, none⟩ = some (.int .i64 (cap : Nat)) := cell_of_row w2 (N) 2 _ _ _ rB2
  have k3 : w2.cell? ⟨N, 3, none⟩ = some (.int .i64 lf) := cell_of_row w2 (N) 3 _ _ _ rB2
  have k4 : w2.cell? ⟨N, 4, none⟩ = some (.bool false) := cell_of_row w2 (N) 4 _ _ _ rB2
  have k5 : w2.cell? ⟨N, 5, none⟩ = some (.int .i64 (tn : Nat)) := cell_of_row w2 (N) 5 _ _ _ rB2
  have r0 : w2.cell? ⟨N + 1, 0, none⟩ = some (.slice none 0 0) := cell_of_row w2 (N + 1) 0 _ _ _ rR2
  have r1 : w2.cell? ⟨N + 1, 1, none⟩ = some (.slice none 0 0) := cell_of_row w2 (N + 1) 1 _ _ _ rR2
  have r2 : w2.cell? ⟨N + 1, 2, none⟩ = some (.int .i64 0) := cell_of_row w2 (N + 1) 2 _ _ _ rR2
  have r3 : w2.cell? ⟨N + 1, 3, none⟩ = some (.int .i64 0) := cell_of_row w2 (N + 1) 3 _ _ _ rR2
  have r4 : w2.cell? ⟨N + 1, 4, none⟩ = some (.bool false) := cell_of_row w2 (N + 1) 4 _ _ _ rR2
  have r5 : w2.cell? ⟨N + 1, 5, none⟩ = some (.int .i64 0) := cell_of_row w2 (N + 1) 5 _ _ _ rR2
  have g0 := frozen_of_row w2 (N + 1) 0 _ _ rR2
  have g1 := frozen_of_row w2 (N + 1) 1 _ _ rR2
  have g2 := frozen_of_row w2 (N + 1) 2 _ _ rR2
  have g3 := frozen_of_row w2 (N + 1) 3 _ _ rR2
  have g4 := frozen_of_row w2 (N + 1) 4 _ _ rR2
  have g5 := frozen_of_row w2 (N + 1) 5 _ _ rR2
  have HR2 := Lib.hid rR2
  have HB02 := Lib.hid hb02
  clear rB2 rR2 hb02 hb2 rB rR hb1 HR
  go_wp2
  all_goals refine bodyPost_ret (rd_res2 _ 6 7 rfl _ _ (N + 1) _ _ _ _ _ _ _ rfl rfl (heap_set6 HR2.out)) rfl ?_
  all_goals exact ⟨rfl, by rw [HNN.out]; exact set6_below HB02.out (by omega)⟩

set_option maxRecDepth 100000 in
set_option maxHeartbeats 4000000 in
theorem rtrunc_big1 (a0 a1 : Option Addr) (n0 c0 n1 c1 : Nat) (cap : Nat) (lf : Int) (tn : Nat) (n : Int) (hn : (n1 : Int) < n) (w : World) :
    Calls Try.prog 89 #[rdV (.slice a0 n0 c0) (.slice a1 n1 c1) cap lf false tn, .int .i64 1, .int .i64 n] w fun e w' => e = .returned (.tuple #[rdV (.slice a0 n0 c0) (.slice a1 n1 c1) cap lf false tn, .int .i64 1]) ∧ Below w.heap.size w w' := by
  have hz := zrd
  have HR := Lib.hid (rrow_any (.slice a0 n0 c0) (.slice a1 n1 c1) ⟨_, _, _, rfl⟩ ⟨_, _, _, rfl⟩ cap lf false tn 1)
  rw [show rowV (.slice a0 n0 c0) (.slice a1 n1 c1) 1 = .slice a1 n1 c1 from rfl] at HR
  obtain ⟨N, hN⟩ : ∃ N, w.heap.size = N := ⟨_, rfl⟩
  have HNN := Lib.hid hN
  clear hN
  go_enter Try.func89, Try.ntmps89
  go_wp2_with fail
  have hN := HNN.out
  obtain ⟨w1, hw1⟩ : ∃ w1, (w.alloc (.cells #[.slice a0 n0 c0, .slice a1 n1 c1, .int .i64 (cap : Nat), .int .i64 lf, .bool false, .int .i64 (tn : Nat)] 32)).alloc (.cells #[.slice none 0 0, .slice none 0 0, .int .i64 0, .int .i64 0, .bool false, .int .i64 0] 32) = w1 := ⟨_, rfl⟩
  have rB : w1.heap[N]? = some (.cells #[.slice a0 n0 c0, .slice a1 n1 c1, .int .i64 (cap : Nat), .int .i64 lf, .bool false, .int .i64 (tn : Nat)] 32 (0, 0)) := by rw [← hw1, ← hN, Below.heap_alloc _ _ _ (by simp)]; exact World.alloc_heap_new w _
  have rR : w1.heap[N + 1]? = some (.cells #[.slice none 0 0, .slice none 0 0, .int .i64 0, .int .i64 0, .bool false, .int .i64 0] 32 (0, 0)) := by rw [← hw1, ← hN]; exact new2 _ _ _
  have hb1 : Below N w w1 := by rw [← hw1, ← hN]; exact new2_below _ _ _
  have hz1 : w1.heap.size = N + 2 := by rw [← hw1, ← hN]; simp
  try rw [hN]
  rw [hw1]
  clear hw1 hN
  refine (HR.out w1).mono ?_
  rintro e w2 ⟨rfl, hb2⟩
  have rB2 := (hb2.block N (by omega)).trans rB
  have rR2 := (hb2.block (N + 1) (by omega)).trans rR
  have hb02 : Below N w w2 := hb1.trans (hb2.mono (by omega))
  have k0 : w2.cell? ⟨N, 0, none⟩ = some (.slice a0 n0 c0) := cell_of_row w2 (N) 0 _ _ _ rB2
  have k1 : w2.cell? ⟨N, 1, none⟩ = some (.slice a1 n1 c1) := cell_of_row w2 (N) 1 _ _ _ rB2
  have k2 : w2.cell? ⟨N, 2, none⟩ = some (.int .i64 (cap : Nat)) := cell_of_row w2 (N) 2 _ _ _ rB2
  have k3 : w2.cell? ⟨N, 3, none⟩ = some (.int .i64 lf) := cell_of_row w2 (N) 3 _ _ _ rB2
  have k4 : w2.cell? ⟨N, 4, none⟩ = some (.bool false) := cell_of_row w2 (N) 4 _ _ _ rB2
  have k5 : w2.cell? ⟨N, 5, none⟩ = some (.int .i64 (tn : Nat)) := cell_of_row w2 (N) 5 _ _ _ rB2
  have r0 : w2.cell? ⟨N + 1, 0, none⟩ = some (.slice none 0 0) := cell_of_row w2 (N + 1) 0 _ _ _ rR2
  have r1 : w2.cell? ⟨N + 1, 1, none⟩ = some (.slice none 0 0) := cell_of_row w2 (N + 1) 1 _ _ _ rR2
  have r2 : w2.cell? ⟨N + 1, 2, none⟩ = some (.int .i64 0) := cell_of_row w2 (N + 1) 2 _ _ _ rR2
  have r3 : w2.cell? ⟨N + 1, 3, none⟩ = some (.int .i64 0) := cell_of_row w2 (N + 1) 3 _ _ _ rR2
  have r4 : w2.cell? ⟨N + 1, 4, none⟩ = some (.bool false) := cell_of_row w2 (N + 1) 4 _ _ _ rR2
  have r5 : w2.cell? ⟨N + 1, 5, none⟩ = some (.int .i64 0) := cell_of_row w2 (N + 1) 5 _ _ _ rR2
  have g0 := frozen_of_row w2 (N + 1) 0 _ _ rR2
  have g1 := frozen_of_row w2 (N + 1) 1 _ _ rR2
  have g2 := frozen_of_row w2 (N + 1) 2 _ _ rR2
  have g3 := frozen_of_row w2 (N + 1) 3 _ _ rR2
  have g4 := frozen_of_row w2 (N + 1) 4 _ _ rR2
  have g5 := frozen_of_row w2 (N + 1) 5 _ _ rR2
  have HR2 := Lib.hid rR2
  have HB02 := Lib.hid hb02
  clear rB2 rR2 hb02 hb2 rB rR hb1 HR
  go_wp2
  all_goals refine bodyPost_ret (rd_res2 _ 6 7 rfl _ _ (N + 1) _ _ _ _ _ _ _ rfl rfl (heap_set6 HR2.out)) rfl ?_
  all_goals exact ⟨rfl, by rw [HNN.out]; exact set6_below HB02.out (by omega)⟩

end Go.Proofs.Ytdimjeppcfacdaa
