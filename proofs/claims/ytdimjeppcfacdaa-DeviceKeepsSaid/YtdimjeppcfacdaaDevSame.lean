/- The device tells the same as the document's. -/
import Derived.Test.YtdimjeppcfacdaaRefDS
import Derived.Test.YtdimjeppcfacdaaRegionOnce
import Derived.BigQuiet
import Derived.Deep.QuietTactic
namespace Go.Proofs.Ytdimjeppcfacdaa
open Go.RowKit
set_option linter.unusedVariables false
attribute [local go_sem] Oper.semAt_some

theorem RefAt.row {w : World} {R : RefS} {A B : Value} (h : RefAt w R A B) (i : Int) : ∃ a c, rowV A B i = .slice a (R.row i).length c ∧ Sl encY w.heap.size w (.slice a (R.row i).length c) (R.row i) := by
  unfold rowV RefS.row
  split
  · obtain ⟨a, c, rfl⟩ := h.a.form; exact ⟨a, c, rfl, h.a⟩
  · split
    · obtain ⟨a, c, rfl⟩ := h.b.form; exact ⟨a, c, rfl, h.b⟩
    · exact ⟨none, 0, rfl, Sl.nil _ _ _⟩
theorem RefAt.len {w : World} {R : RefS} {A B : Value} (h : RefAt w R A B) (i : Int) : (R.row i).length ≤ 1048576 := by
  have h1 := h.ok.cap
  have h2 := h.ok.l0
  have h3 := h.ok.l1
  unfold RefS.row
  split
  · omega
  · split
    · omega
    · simp

set_option maxRecDepth 100000 in
set_option maxHeartbeats 8000000 in
theorem dsame_any {own : List Nat} {b k : Nat} {D : DevS} {v0 v1 : Value} {R : RefS} {A B : Value} (w : World) (h : Dev own w b D v0 v1) (hR : RefAt w R A B) (hT : Twin k D R) :
    Calls Try.prog 21 #[.pointer (some ⟨b, 0, none⟩), R.val A B] w fun e w' => e = .returned (.bool true) ∧ Below w.heap.size w w' := by
  have HD := Lib.hid h
  have HR := Lib.hid hR
  have HT := Lib.hid hT
  obtain ⟨a0, c0, rfl⟩ := hR.a.form
  obtain ⟨a1, c1, rfl⟩ := hR.b.form
  obtain ⟨cap, r0, r1, down, lf, tn⟩ := R
  have hblt := h.blk.lt
  obtain ⟨n0, hn0⟩ : ∃ n0, r0.length = n0 := ⟨_, rfl⟩
  obtain ⟨n1, hn1⟩ : ∃ n1, r1.length = n1 := ⟨_, rfl⟩
  dsimp only at HR ⊢
  rw [hn0, hn1] at HR ⊢
  clear h hR hT
  have hbN := hblt
  have hX := fun i => (HR.out.row i)
  go_enter Try.func21, Try.ntmps21
  go_wp2
  go_loopw [5] (fun i wr => ∃ j : Nat, j ≤ 4 ∧ i = .int .i64 ((j : Int) - 1) ∧ wr.heap[w.heap.size]? = some (.cells #[.slice a0 n0 c0, .slice a1 n1 c1, .int .i64 (cap : Nat), .int .i64 lf, .bool down, .int .i64 (tn : Nat)] 32 (0, 0)) ∧ Below w.heap.size w wr) (fun i _ => 4 - (intOf i + 1).toNat)
  case atStart => exact ⟨0, by omega, rfl, World.alloc_heap_new w _, (Below.refl _ _).alloc (Nat.le_refl _) _⟩
  case round =>
    obtain ⟨j, hj, rfl, hBx, hb⟩ := hrel
    have hbx := (Array.getElem?_eq_some_iff.1 hBx).1
    have HBX := Lib.hid hBx
    have HB := Lib.hid hb
    by_cases hj4 : j < 4
    · obtain ⟨i, hi⟩ : ∃ i : Int, (j : Int) - 1 = i := ⟨_, rfl⟩
      have hi2 : i ≤ 2 := by omega
      have hi3 : -1 ≤ i := by omega
      rw [hi]
      obtain ⟨ra, rc, hrv, hRS⟩ := HR.out.row i
      have hLL := HR.out.len i
      obtain ⟨X, hX⟩ : ∃ X, RefS.row ⟨cap, r0, r1, down, lf, tn⟩ i = X := ⟨_, rfl⟩
      have hDX : D.row i = X := by rw [HT.out.row i]; exact hX
      rw [hX] at hrv hRS hLL
      have HXX := Lib.hid hX
      have HDX := Lib.hid hDX
      have HRS := Lib.hid hRS
      obtain ⟨L, hL⟩ : ∃ L, X.length = L := ⟨_, rfl⟩
      rw [hL] at hrv HRS
      have HL := Lib.hid hL
      have HLL := Lib.hid hLL
      have HROW := Lib.hid (fun W => rrow_any (.slice a0 n0 c0) (.slice a1 n1 c1) ⟨_, _, _, rfl⟩ ⟨_, _, _, rfl⟩ cap lf down tn i W)
      rw [hrv] at HROW
      have HI := Lib.hid hi
      clear hX hDX hRS hL hLL hrv hBx hb hi
      go_wp2_with fail
      refine region_rel (l := _) (by kernel_rfl) (by decide +kernel) (fun v => { tmps := #[.pointer (some ⟨b, 0, none⟩), rdV (.slice a0 n0 c0) (.slice a1 n1 c1) cap lf down tn, undef, .pointer (some ⟨w.heap.size, 0, none⟩), u4, .int .i64 i, .int .i64 i, .bool true, u8, u9, v 0, v 1, v 2, v 3, v 4, v 5, v 6, v 7, v 8, v 9, v 10, v 11, v 12, v 13, v 14, v 15, v 16, v 17, undef, undef, undef, undef, undef, undef, undef, undef, undef, undef, undef, undef, undef, undef, undef, undef, undef, undef, undef], defers := [] }) (fun W => Below wr.heap.size wr W) (fun i' u W => match i' with
        | 0 => u = .pointer (some ⟨b, 0, none⟩)
        | 1 => u = .int .i64 i
        | 2 => ∃ p c, u = .slice p L c ∧ Sl encY W.heap.size W u X
        | 3 => u = rdV (.slice a0 n0 c0) (.slice a1 n1 c1) cap lf down tn
        | 4 => u = .int .i64 i
        | 5 => u = .slice ra L rc
        | 6 => u = .bool true
        | 7 => u = .bool false
        | 8 => u = .bool false
        | 9 => u = .pointer (some ⟨b, 0, none⟩)
        | 10 => u = .int .i64 i
        | 11 => u = .int .i64 (L : Nat)
        | 12 => u = rdV (.slice a0 n0 c0) (.slice a1 n1 c1) cap lf down tn
        | 13 => u = .int .i64 i
        | 14 => u = .slice ra L rc
        | 15 => u = .int .i64 (L : Nat)
        | 16 => u = .bool false
        | 17 => u = .bool false
        | _ => True) (fun A B => Below A.heap.size A B) ?hC ?hV (fun i' => [u10, u11, u12, u13, u14, u15, u16, u17, u18, u19, u20, u21, u22, u23, u24, u25, u26, u27].getD i' undef) ?h0 ?hop ?hend
      case hC => exact fun A B h h2 => h.trans (h2.mono h.size)
      case h0 => exact (Below.refl _ _).drew
      case hV =>
        intro i' u A B h hx
        match i', h with
        | 2, ⟨p, c, e, h⟩ => exact ⟨p, c, e, (h.below hx).mono hx.size⟩
        | 0, h => exact h
        | 1, h => exact h
        | 3, h => exact h
        | 4, h => exact h
        | 5, h => exact h
        | 6, h => exact h
        | 7, h => exact h
        | 8, h => exact h
        | 9, h => exact h
        | 10, h => exact h
        | 11, h => exact h
        | 12, h => exact h
        | 13, h => exact h
        | 14, h => exact h
        | 15, h => exact h
        | 16, h => exact h
        | 17, h => exact h
        | n + 18, h => trivial
      case hop =>
        simp only [AllDo]
        refine ⟨?o0, ?o1, ?o2, ?o3, ?o4, ?o5, ?o6, ?o7, ?o8, ?o9, ?o10, ?o11, ?o12, ?o13, ?o14, ?o15, ?o16, ?o17, trivial⟩
        all_goals intro v W hc hd Q hQ
        all_goals simp [Region.binds] at hd
        case o0 => rw [if_pos (show Region.wanted _ _ = true from rfl)]; go_wp2; exact ⟨_, rfl, Below.refl _ _, rfl⟩
        case o1 => rw [if_pos (show Region.wanted _ _ = true from rfl)]; go_wp2; exact ⟨_, rfl, Below.refl _ _, rfl⟩
        case o2 =>
          obtain ⟨h1, h2⟩ := hd
          have hwW : Below w.heap.size w W := HB.out.trans (hc.mono HB.out.size)
          have HBY := Lib.hid (bytes_any i W (HD.out.below hwW))
          rw [HDX.out] at HBY
          rw [if_pos (show Region.wanted _ _ = true from rfl)]
          go_wp2_with fail
          refine HBY.out.mono ?_
          rintro e W' ⟨v', rfl, hown, hb'⟩
          have hS' : Sl encY W'.heap.size W' v' X := Sl.of_owns hown
          obtain ⟨p', c', hv'⟩ := hS'.form
          rw [HL.out] at hv'
          have HS' := Lib.hid hS'
          have HV' := Lib.hid hv'
          clear hS' hown hv'
          go_wp2
          refine ⟨v', ?_, hb', p', c', HV'.out, HS'.out⟩
          simp [updV, h1, h2]
        case o3 =>
          have rW := (hc.block w.heap.size hbx).trans HBX.out
          have k0 : W.cell? ⟨w.heap.size, 0, none⟩ = some (.slice a0 n0 c0) := cell_of_row W _ 0 _ _ _ rW
          have k1 : W.cell? ⟨w.heap.size, 1, none⟩ = some (.slice a1 n1 c1) := cell_of_row W _ 1 _ _ _ rW
          have k2 : W.cell? ⟨w.heap.size, 2, none⟩ = some (.int .i64 (cap : Nat)) := cell_of_row W _ 2 _ _ _ rW
          have k3 : W.cell? ⟨w.heap.size, 3, none⟩ = some (.int .i64 lf) := cell_of_row W _ 3 _ _ _ rW
          have k4 : W.cell? ⟨w.heap.size, 4, none⟩ = some (.bool down) := cell_of_row W _ 4 _ _ _ rW
          have k5 : W.cell? ⟨w.heap.size, 5, none⟩ = some (.int .i64 (tn : Nat)) := cell_of_row W _ 5 _ _ _ rW
          clear rW
          rw [if_pos (show Region.wanted _ _ = true from rfl)]
          go_wp2
          first | exact ⟨_, rfl, Below.refl _ _, rfl⟩ | exact ⟨by simp_all [updV], Below.refl _ _⟩
        case o4 => rw [if_pos (show Region.wanted _ _ = true from rfl)]; go_wp2; exact ⟨_, rfl, Below.refl _ _, rfl⟩
        case o5 =>
          obtain ⟨h1, h2, h3⟩ := hd
          rw [if_pos (show Region.wanted _ _ = true from rfl)]
          go_wp2_with fail
          refine (HROW.out W).mono ?_
          rintro e W' ⟨rfl, hb'⟩
          go_wp2
          refine ⟨.slice ra L rc, ?_, hb', rfl⟩
          simp [updV, h1, h2]
        case o6 =>
          obtain ⟨⟨⟨p', c', h1⟩, h2⟩, h3⟩ := hd
          rw [h1] at h2
          have hwW : Below w.heap.size w W := HB.out.trans (hc.mono HB.out.size)
          have HSM := Lib.hid (sameY_any _ _ _ _ _ _ X X W HLL.out HLL.out h2 (hS_step HRS.out hwW))
          rw [decide_eq_true rfl] at HSM
          rw [if_pos (show Region.wanted _ _ = true from rfl)]
          go_wp2_with fail
          refine HSM.out.mono ?_
          rintro e W' ⟨rfl, hb'⟩
          go_wp2
          refine ⟨.bool true, ?_, hb', rfl⟩
          simp [updV, h1, h3]
        case o7 => rw [if_pos (show Region.wanted _ _ = true from rfl)]; go_wp2; first | exact ⟨_, rfl, Below.refl _ _, rfl⟩ | exact ⟨by simp_all [updV], Below.refl _ _⟩
        case o8 => rw [if_pos (show Region.wanted _ _ = true from rfl)]; go_wp2; first | exact ⟨_, rfl, Below.refl _ _, rfl⟩ | exact ⟨by simp_all [updV], Below.refl _ _⟩
        case o9 => rw [hd]; rw [if_pos (show Region.wanted _ _ = true from rfl)]; go_wp2; first | exact ⟨_, rfl, Below.refl _ _, rfl⟩ | (refine ⟨_, ?_, Below.refl _ _, rfl⟩; simp [updV, hd]) | exact ⟨by simp_all [updV], Below.refl _ _⟩
        case o10 => rw [hd]; rw [if_pos (show Region.wanted _ _ = true from rfl)]; go_wp2; first | exact ⟨_, rfl, Below.refl _ _, rfl⟩ | (refine ⟨_, ?_, Below.refl _ _, rfl⟩; simp [updV, hd]) | exact ⟨by simp_all [updV], Below.refl _ _⟩
        case o11 =>
          obtain ⟨h1, h2, hd⟩ := hd
          have hwW : Below w.heap.size w W := HB.out.trans (hc.mono HB.out.size)
          have HBY := Lib.hid (len_any i W (HD.out.below hwW))
          rw [HDX.out, HL.out] at HBY
          rw [hd]
          rw [if_pos (show Region.wanted _ _ = true from rfl)]
          go_wp2_with fail
          refine HBY.out.mono ?_
          rintro e W' ⟨rfl, rfl⟩
          go_wp2
          first | (refine ⟨_, ?_, Below.refl _ _, rfl⟩; simp [updV, hd, h1, h2]) | exact ⟨by simp_all [updV], Below.refl _ _⟩
        case o12 =>
          have rW := (hc.block w.heap.size hbx).trans HBX.out
          have k0 : W.cell? ⟨w.heap.size, 0, none⟩ = some (.slice a0 n0 c0) := cell_of_row W _ 0 _ _ _ rW
          have k1 : W.cell? ⟨w.heap.size, 1, none⟩ = some (.slice a1 n1 c1) := cell_of_row W _ 1 _ _ _ rW
          have k2 : W.cell? ⟨w.heap.size, 2, none⟩ = some (.int .i64 (cap : Nat)) := cell_of_row W _ 2 _ _ _ rW
          have k3 : W.cell? ⟨w.heap.size, 3, none⟩ = some (.int .i64 lf) := cell_of_row W _ 3 _ _ _ rW
          have k4 : W.cell? ⟨w.heap.size, 4, none⟩ = some (.bool down) := cell_of_row W _ 4 _ _ _ rW
          have k5 : W.cell? ⟨w.heap.size, 5, none⟩ = some (.int .i64 (tn : Nat)) := cell_of_row W _ 5 _ _ _ rW
          clear rW
          rw [hd]
          rw [if_pos (show Region.wanted _ _ = true from rfl)]
          go_wp2
          first | exact ⟨_, rfl, Below.refl _ _, rfl⟩ | (refine ⟨_, ?_, Below.refl _ _, rfl⟩; simp [updV, hd]) | exact ⟨by simp_all [updV], Below.refl _ _⟩
        case o13 => rw [hd]; rw [if_pos (show Region.wanted _ _ = true from rfl)]; go_wp2; first | exact ⟨_, rfl, Below.refl _ _, rfl⟩ | (refine ⟨_, ?_, Below.refl _ _, rfl⟩; simp [updV, hd]) | exact ⟨by simp_all [updV], Below.refl _ _⟩
        case o14 =>
          obtain ⟨h1, h2, h3, hd⟩ := hd
          rw [hd]
          rw [if_pos (show Region.wanted _ _ = true from rfl)]
          go_wp2_with fail
          refine (HROW.out W).mono ?_
          rintro e W' ⟨rfl, hb'⟩
          go_wp2
          refine ⟨.slice ra L rc, ?_, hb', rfl⟩
          simp [updV, h1, h2, h3, hd]
        case o15 =>
          obtain ⟨h1, hd⟩ := hd
          rw [hd]
          rw [if_pos (show Region.wanted _ _ = true from rfl)]
          go_wp2
          first | (refine ⟨_, ?_, Below.refl _ _, rfl⟩; simp [updV, hd, h1]) | exact ⟨by simp_all [updV], Below.refl _ _⟩
        case o16 =>
          obtain ⟨h1, h2, hd⟩ := hd
          rw [hd]
          rw [if_pos (show Region.wanted _ _ = true from rfl)]
          go_wp2
          first | (refine ⟨_, ?_, Below.refl _ _, rfl⟩; simp [updV, hd, h1, h2]) | exact ⟨by simp_all [updV], Below.refl _ _⟩
        case o17 =>
          rw [if_pos (show Region.wanted _ _ = true from rfl)]
          go_wp2
          first | exact ⟨_, rfl, Below.refl _ _, rfl⟩ | (refine ⟨_, ?_, Below.refl _ _, rfl⟩; simp [updV, hd]) | exact ⟨by simp_all [updV], Below.refl _ _⟩
      case hend =>
        intro v W hc hv
        have h17 : v 17 = .bool false := hv 17 (by decide)
        have hwW : Below w.heap.size w W := HB.out.trans (hc.mono HB.out.size)
        have rW := (hc.block w.heap.size hbx).trans HBX.out
        have HWW := Lib.hid hwW
        have HRW := Lib.hid rW
        clear hv hc hwW rW
        dsimp only
        rw [h17]
        go_wp2_with fail
        go_roundw
        case rel =>
          (repeat apply Exists.intro); exact ⟨⟨j + 1, by omega, by rw [← HI.out]; go_num, HRW.out, HWW.out⟩, rfl⟩
        case measure => rw [← HI.out]; simp [intOf]; omega
    · obtain rfl : j = 4 := by omega
      have hdn := HT.out.down
      have htn := HT.out.tn
      have hcp := HT.out.cap
      dsimp only at hdn htn hcp
      have hwb := HD.out.below hb
      have L1 : ∀ n, Calls Try.prog 85 #[.pointer (some ⟨b, 0, none⟩)] (wr.drewN n) fun e w' => e = .returned (.bool down) ∧ ∃ q, w' = (wr.drewN n).drewN q := fun n => (down_any (wr.drewN n) hwb.blk).mono (by rintro e w' ⟨rfl, rfl⟩; exact ⟨by rw [hdn], 0, rfl⟩)
      have L2 : ∀ n, Calls Try.prog 72 #[.pointer (some ⟨b, 0, none⟩)] (wr.drewN n) fun e w' => e = .returned (.int .i64 (tn : Nat)) ∧ ∃ q, w' = (wr.drewN n).drewN q := fun n => (turned_any (wr.drewN n) hwb.blk).mono (by rintro e w' ⟨rfl, rfl⟩; exact ⟨by rw [htn], 0, rfl⟩)
      have L3 : ∀ n, Calls Try.prog 27 #[.pointer (some ⟨b, 0, none⟩)] (wr.drewN n) fun e w' => e = .returned (.int .i64 (cap : Nat)) ∧ ∃ q, w' = (wr.drewN n).drewN q := fun n => (capacity_any (wr.drewN n) hwb.blk).mono (by rintro e w' ⟨rfl, rfl⟩; exact ⟨by rw [hcp], 0, rfl⟩)
      have HL1 := Lib.hid L1
      have HL2 := Lib.hid L2
      have HL3 := Lib.hid L3
      have HBB := Lib.hid hb
      clear L1 L2 L3 hdn htn hcp hwb
      have k2 : wr.cell? ⟨w.heap.size, 2, none⟩ = some (.int .i64 (cap : Nat)) := cell_of_row wr _ 2 _ _ _ hBx
      have k4 : wr.cell? ⟨w.heap.size, 4, none⟩ = some (.bool down) := cell_of_row wr _ 4 _ _ _ hBx
      have k5 : wr.cell? ⟨w.heap.size, 5, none⟩ = some (.int .i64 (tn : Nat)) := cell_of_row wr _ 5 _ _ _ hBx
      clear hBx hb
      go_wp2_with fail
      go_quiet (first | (go_at_call 85; exact Calls.quiet_of (HL1.out _)) | (go_at_call 72; exact Calls.quiet_of (HL2.out _)) | (go_at_call 27; exact Calls.quiet_of (HL3.out _)))
      all_goals go_wp2
      all_goals go_ret
      all_goals exact ⟨rfl, Below.drewN_r HBB.out _⟩
end Go.Proofs.Ytdimjeppcfacdaa
