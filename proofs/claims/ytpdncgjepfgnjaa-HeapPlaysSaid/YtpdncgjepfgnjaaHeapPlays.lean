/- For whatever row of steps and number law HeapPlays answers true: a heap answers as the document's row does, step by step, and drained it gives what the row begins with. No condition. -/
import Derived.Test.YtpdncgjepfgnjaaHpAl
import Derived.Test.YtpdncgjepfgnjaaHpP
import Derived.Test.YtpdncgjepfgnjaaOpenHo
namespace Go.Proofs.Ytpdncgjepfgnjaa.heapPlays
open Go.ChangeShapes Go.WideShapes Go.ChangeAt Go.RowKit Go.Proofs.Ytpdncgjepfgnjaa
set_option linter.unusedVariables false
attribute [local go_sem] Oper.semAt_some

set_option maxRecDepth 100000 in
set_option maxHeartbeats 2000000 in
theorem walk (w : World) (p0 : Option Addr) (n0 c0 : Nat) (l0 : List HOp) (S0 : HOps w.heap.size w (.slice p0 n0 c0) l0) (b0 : (∀ x ∈ l0, x.Ok) ∧ l0.length ≤ Go.maxLen) (a1 : Int) (w1 : (Lit.int .i64 a1).wf = true) :
    Calls Try.prog 3 #[.slice p0 n0 c0, .int .i64 a1] w fun e w' => e = .returned (.bool true) ∧ Below w.heap.size w w' := by

  have hlen := S0.len
  subst hlen
  have HS := Lib.hid S0
  have HAL := Lib.hid (fun W => heapAlive_any W)
  have hb1 := bounds_of_int w1
  obtain ⟨n0, hn0⟩ : ∃ n, l0.length = n := ⟨_, rfl⟩
  have HN := Lib.hid hn0
  have hmax := b0.2
  have HOK := Lib.hid b0.1
  rw [hn0] at hmax ⊢
  unfold maxLen at hmax
  clear S0 b0 hn0 w1
  by_cases hbig : 200 < n0
  · have c0' : decide ((200 : Int) < (n0 : Int)) = true := decide_eq_true (by omega)
    go_enter Try.func3, Try.ntmps3
    go_wp2_with (go_at_call 7; refine (HAL.out _).mono ?_; rintro e w1 ⟨rfl, hb⟩; have HB1 := Lib.hid hb; clear hb)
    go_ret
    exact ⟨rfl, ((Below.refl _ _).alloc (Nat.le_refl _) _).trans (HB1.out.mono (by simp))⟩
  · have c0' : decide ((200 : Int) < (n0 : Int)) = false := decide_eq_false (by omega)
    have hle : n0 ≤ 200 := by omega
    refine (callsIn_wide (n := 3)).1 ?_
    refine callsIn_of_wp_marks Try.func3 rfl trivial ?_ rfl
    simp only [Try.ntmps3, List.size_toArray, List.length_cons, List.length_nil, Nat.reduceAdd, Nat.reduceSub, Array.replicate_succ, Array.replicate_zero, List.push_toArray, List.append_toArray, List.nil_append, List.cons_append]
    refine wpIn_wide.2 ?_
    go_wp2_with (first
      | (go_at_call 7; refine (HAL.out _).mono ?_; rintro e w1 ⟨rfl, hb⟩; have hsb := start_box hb; have HZ1 := Lib.hid hsb.1; have HN1 := Lib.hid hsb.2.1; have HB1 := Lib.hid hsb.2.2; clear hb hsb)
      | (go_at_call 8; refine (newP (.func (.func 9) #[] #[]) w1 ⟨_, rfl⟩).mono ?_; rintro e w2 ⟨rfl, h2, b2⟩; have hi2 : PlI w1 w1.heap.size (w2.alloc (.cells #[] 27)).heap.size 0 [] (.slice (some ⟨w2.heap.size, 0, none⟩) 0 0) (w2.alloc (.cells #[] 27)) := PlI.new (h2.below ((Below.refl _ _).alloc (Nat.le_refl _) _) (Nat.le_refl _)) (Nat.le_refl _) (b2.alloc b2.size _); have HI2 := Lib.hid hi2; clear hi2 h2 b2))
    go_loopw [6, 23] (fun ps i wr => ∃ (m n : Nat) (S : List ((Int × Int) × Int)), i = .int .i64 m ∧ m ≤ n0 ∧ PlI w1 w1.heap.size n m S ps wr) (fun _ i _ => n0 - (intOf i).toNat)
    case atStart => exact ⟨0, _, [], rfl, Nat.zero_le _, HI2.out⟩
    clear HI2
    obtain ⟨m, n, S, rfl, hm, hi⟩ := hrel
    by_cases hlt : m < n0
    · obtain ⟨⟨kd, k, u⟩, hy⟩ : ∃ y, l0[m]? = some y := ⟨_, List.getElem?_eq_getElem (by rw [HN.out]; exact hlt)⟩
      obtain ⟨g, off, rfl, hg, f0, f1, f2⟩ := HS.out.at_ hy
      have hbw : Below w.heap.size w wr := HB1.out.trans (hi.bel.mono (by have := HZ1.out; omega))
      have d0 := (hbw.cell (p := ⟨g, off + m * 3, none⟩) hg).trans f0
      have d1 := (hbw.cell (p := ⟨g, off + m * 3 + 1, none⟩) hg).trans f1
      have d2 := (hbw.cell (p := ⟨g, off + m * 3 + 2, none⟩) hg).trans f2
      simp only at d0 d1 d2
      have b1 : (0 : Int) ≤ m := by omega
      have b2 : (m : Int) < n0 := by omega
      obtain ⟨a6, c6, rfl⟩ := hi.form
      have hib := hi.up.below ((Below.refl _ wr).alloc (Nat.le_refl _) (Obj.cells #[.int .i64 kd, .int .i64 k, .int .i64 u] 31))
      have HIb := Lib.hid hib
      have HZB : Hid ((wr.alloc (Obj.cells #[.int .i64 kd, .int .i64 k, .int .i64 u] 31)).heap.size = wr.heap.size + 1) := Lib.hid (by simp)
      have HX0 : Hid ((wr.alloc (Obj.cells #[.int .i64 kd, .int .i64 k, .int .i64 u] 31)).cell? ⟨wr.heap.size, 0, none⟩ = some (.int .i64 kd)) := Lib.hid (cell_new_row wr _ _ 0)
      have HX1 : Hid ((wr.alloc (Obj.cells #[.int .i64 kd, .int .i64 k, .int .i64 u] 31)).cell? ⟨wr.heap.size, 1, none⟩ = some (.int .i64 k)) := Lib.hid (cell_new_row wr _ _ 1)
      have HX2 : Hid ((wr.alloc (Obj.cells #[.int .i64 kd, .int .i64 k, .int .i64 u] 31)).cell? ⟨wr.heap.size, 2, none⟩ = some (.int .i64 u)) := Lib.hid (cell_new_row wr _ _ 2)
      clear hib hbw f0 f1 f2
      by_cases hk0 : kd = 0
      · subst hk0
        have HPUT := Lib.hid (HIb.out.put (by omega) (k, u))
        unfold valP at HPUT
        clear hi
        go_wp2_with (first
          | (go_at_call 10; (refine HPUT.out.mono ?_; rintro e w3 ⟨rfl, h3, hk3⟩; have HD := Lib.hid (h3.dput (by omega)); unfold valP at HD; have x1 := (World.cell?_of_block (a := ⟨wr.heap.size, 1, none⟩) (hk3 _ (Nat.le_refl _) (World.block_lt_of_cell? _ _ HX1.out))).trans HX1.out; have x2 := (World.cell?_of_block (a := ⟨wr.heap.size, 2, none⟩) (hk3 _ (Nat.le_refl _) (World.block_lt_of_cell? _ _ HX2.out))).trans HX2.out; clear h3 hk3))
          | (go_at_call 11; (refine HD.out.mono ?_; rintro e w4 ⟨a4, c4, n4, S4, rfl, hS4, h4⟩; have H4 := Lib.hid h4; have HL4 := Lib.hid hS4; have HLN := Lib.hid h4.len; rw [hS4] at HLN; clear h4 hS4))
          | (go_at_call 14; refine HLN.out.mono ?_; rintro e w' ⟨rfl, rfl⟩))
        go_roundw
        case rel => exact ⟨m + 1, n4, S4, by go_num, by omega, H4.out⟩
        case measure => simp [intOf]; omega
      by_cases hk1 : kd = 1
      · subst hk1
        have HPUT := Lib.hid (HIb.out.put (by omega) (k, u))
        unfold valP at HPUT
        clear hi
        go_wp2_with (first
          | (go_at_call 10; (refine HPUT.out.mono ?_; rintro e w3 ⟨rfl, h3, hk3⟩; have HD := Lib.hid (h3.dput (by omega)); unfold valP at HD; have x1 := (World.cell?_of_block (a := ⟨wr.heap.size, 1, none⟩) (hk3 _ (Nat.le_refl _) (World.block_lt_of_cell? _ _ HX1.out))).trans HX1.out; have x2 := (World.cell?_of_block (a := ⟨wr.heap.size, 2, none⟩) (hk3 _ (Nat.le_refl _) (World.block_lt_of_cell? _ _ HX2.out))).trans HX2.out; clear h3 hk3))
          | (go_at_call 11; (refine HD.out.mono ?_; rintro e w4 ⟨a4, c4, n4, S4, rfl, hS4, h4⟩; have H4 := Lib.hid h4; have HL4 := Lib.hid hS4; have HLN := Lib.hid h4.len; rw [hS4] at HLN; clear h4 hS4))
          | (go_at_call 14; refine HLN.out.mono ?_; rintro e w' ⟨rfl, rfl⟩))
        go_roundw
        case rel => exact ⟨m + 1, n4, S4, by go_num, by omega, H4.out⟩
        case measure => simp [intOf]; omega
      by_cases hk2 : kd = 2
      · subst hk2
        have HPUT := Lib.hid (HIb.out.put (by omega) (k, u))
        unfold valP at HPUT
        clear hi
        go_wp2_with (first
          | (go_at_call 10; (refine HPUT.out.mono ?_; rintro e w3 ⟨rfl, h3, hk3⟩; have HD := Lib.hid (h3.dput (by omega)); unfold valP at HD; have x1 := (World.cell?_of_block (a := ⟨wr.heap.size, 1, none⟩) (hk3 _ (Nat.le_refl _) (World.block_lt_of_cell? _ _ HX1.out))).trans HX1.out; have x2 := (World.cell?_of_block (a := ⟨wr.heap.size, 2, none⟩) (hk3 _ (Nat.le_refl _) (World.block_lt_of_cell? _ _ HX2.out))).trans HX2.out; clear h3 hk3))
          | (go_at_call 11; (refine HD.out.mono ?_; rintro e w4 ⟨a4, c4, n4, S4, rfl, hS4, h4⟩; have H4 := Lib.hid h4; have HL4 := Lib.hid hS4; have HLN := Lib.hid h4.len; rw [hS4] at HLN; clear h4 hS4))
          | (go_at_call 14; refine HLN.out.mono ?_; rintro e w' ⟨rfl, rfl⟩))
        go_roundw
        case rel => exact ⟨m + 1, n4, S4, by go_num, by omega, H4.out⟩
        case measure => simp [intOf]; omega
      have e0 : (kd == 0) = false := by simpa using hk0
      have e1 : (kd == 1) = false := by simpa using hk1
      have e2 : (kd == 2) = false := by simpa using hk2
      by_cases hk3 : kd = 3
      · subst hk3
        rcases S with _ | ⟨⟨⟨y, z⟩, p⟩, S'⟩
        · have HTOP : Hid (Calls Try.prog 12 #[.pointer (some ⟨w1.heap.size, 0, none⟩)] (wr.alloc (Obj.cells #[.int .i64 3, .int .i64 k, .int .i64 u] 31)) fun e W' => e = .returned (.tuple #[.agg #[.int .i64 0, .int .i64 0], .bool false]) ∧ Below (wr.alloc (Obj.cells #[.int .i64 3, .int .i64 k, .int .i64 u] 31)).heap.size (wr.alloc (Obj.cells #[.int .i64 3, .int .i64 k, .int .i64 u] 31)) W') := Lib.hid HIb.out.top
          clear hi
          go_upto_region 14 with (first
            | (go_at_call 12; (refine HTOP.out.mono ?_; rintro e w3 ⟨rfl, hb3⟩; have h3 := HIb.out.below (hb3.mono (by have := HZB.out; omega)); have h4 := h3.below ((Below.refl wr.heap.size w3).alloc (by have := hb3.size; have := HZB.out; omega) (Obj.cells #[.int .i64 0, .int .i64 0] 27)); have HI4 := Lib.hid h4; have x0 := (hb3.cell (p := ⟨wr.heap.size, 0, none⟩) (World.block_lt_of_cell? _ _ HX0.out)).trans HX0.out; have HX3 := Lib.hid x0; have HZ3 : Hid (wr.heap.size + 1 ≤ w3.heap.size) := Lib.hid (by have := hb3.size; have := HZB.out; omega); have x0' := (World.cell?_of_block (a := ⟨wr.heap.size, 0, none⟩) (heap_alloc_old' w3 (Obj.cells #[.int .i64 0, .int .i64 0] 27) wr.heap.size (by have := HZ3.out; omega))).trans x0; have HX4 := Lib.hid x0'; clear x0; have HPOP : Hid (Calls Try.prog 13 #[.pointer (some ⟨w1.heap.size, 0, none⟩)] (w3.alloc (Obj.cells #[.int .i64 0, .int .i64 0] 27)) fun e W' => e = .returned (.tuple #[.agg #[.int .i64 0, .int .i64 0], .bool false]) ∧ PlP w1 w1.heap.size wr.heap.size m [] _ W' ∧ (w3.alloc (Obj.cells #[.int .i64 0, .int .i64 0] 27)).heap.size ≤ W'.heap.size ∧ ∀ k, wr.heap.size ≤ k → k < (w3.alloc (Obj.cells #[.int .i64 0, .int .i64 0] 27)).heap.size → W'.heap[k]? = (w3.alloc (Obj.cells #[.int .i64 0, .int .i64 0] 27)).heap[k]?) := Lib.hid (h4.pop (by omega)); clear h3 h4 hb3))
            | (go_at_call 13; (refine HPOP.out.mono ?_; rintro e w5 ⟨rfl, h5, hz5, hk5⟩; have HP5 := Lib.hid h5; have HZ5 : Hid (w3.heap.size + 1 ≤ w5.heap.size) := Lib.hid (by rw [World.size_alloc] at hz5; exact hz5); have x5 := (World.cell?_of_block (a := ⟨wr.heap.size, 0, none⟩) ((hk5 _ (Nat.le_refl _) (by have := HZ3.out; rw [World.size_alloc]; omega)).trans (heap_alloc_old' w3 _ _ (by have := HZ3.out; omega)))).trans HX3.out; have hblk := (hk5 w3.heap.size (by have := HZ3.out; omega) (by rw [World.size_alloc]; omega)).trans (World.alloc_heap_new w3 _); have q0 := cell_of_row w5 _ 0 _ _ _ hblk; have q1 := cell_of_row w5 _ 1 _ _ _ hblk; have hfz := frozen_of_row w5 _ 0 _ _ hblk; have hfz1 := frozen_of_row w5 _ 1 _ _ hblk; simp at q0 q1; have HBK := Lib.hid hblk; have HX5 := Lib.hid x5; clear h5 hz5 hk5 hblk)))
          obtain ⟨w7, hw7⟩ : ∃ w7, (w5.setCell ⟨w3.heap.size, 0, none⟩ (.int .i64 0)).setCell ⟨w3.heap.size, 1, none⟩ (.int .i64 0) = w7 := ⟨_, rfl⟩
          rw [hw7]
          have h7 := HP5.out.below (((Below.refl wr.heap.size w5).setCell (p := ⟨w3.heap.size, 0, none⟩) (by have := HZ3.out; show wr.heap.size ≤ w3.heap.size; omega) (.int .i64 0)).setCell (p := ⟨w3.heap.size, 1, none⟩) (by have := HZ3.out; show wr.heap.size ≤ w3.heap.size; omega) (.int .i64 0))
          have r7 := heap_setCell_same _ w3.heap.size 1 _ _ (.int .i64 0) (heap_setCell_same w5 w3.heap.size 0 _ _ (.int .i64 0) HBK.out)
          have x7 := (World.cell?_of_block (a := ⟨wr.heap.size, 0, none⟩) ((Below.heap_setCell (w5.setCell ⟨w3.heap.size, 0, none⟩ (.int .i64 0)) ⟨w3.heap.size, 1, none⟩ (.int .i64 0) wr.heap.size (by have := HZ3.out; show wr.heap.size ≠ w3.heap.size; omega)).trans (Below.heap_setCell w5 ⟨w3.heap.size, 0, none⟩ (.int .i64 0) wr.heap.size (by have := HZ3.out; show wr.heap.size ≠ w3.heap.size; omega)))).trans HX5.out
          rw [hw7] at h7 r7 x7
          have c90 := cell_of_row w7 _ 0 _ _ _ r7
          have c91 := cell_of_row w7 _ 1 _ _ _ r7
          simp at c90 c91
          have H7 := Lib.hid h7
          clear h7 r7 hw7
          go_quiet (fail)
          have h8 := H7.out.below (below_drewN wr.heap.size w7 nq)
          have x8 : (w7.drewN nq).cell? ⟨wr.heap.size, 0, none⟩ = some (.int .i64 3) := x7
          obtain ⟨w8, hw8⟩ : ∃ w8, w7.drewN nq = w8 := ⟨_, rfl⟩
          rw [hw8] at h8 x8 ⊢
          clear hw8 H7 c90 c91 x7
          have hi8 : PlI w1 w1.heap.size wr.heap.size m [] (.slice a6 0 c6) w8 := h8
          have HLN := Lib.hid hi8.len
          have HI8 := Lib.hid hi8
          clear hi8 h8
          go_wp2_with (go_at_call 14; refine HLN.out.mono ?_; rintro e w' ⟨rfl, rfl⟩)
          go_roundw
          case rel => exact ⟨m + 1, _, _, by go_num, by omega, HI8.out.succ⟩
          case measure => simp [intOf]; omega
        · have HTOP : Hid (Calls Try.prog 12 #[.pointer (some ⟨w1.heap.size, 0, none⟩)] (wr.alloc (Obj.cells #[.int .i64 3, .int .i64 k, .int .i64 u] 31)) fun e W' => e = .returned (.tuple #[.agg #[.int .i64 y, .int .i64 z], .bool true]) ∧ Below (wr.alloc (Obj.cells #[.int .i64 3, .int .i64 k, .int .i64 u] 31)).heap.size (wr.alloc (Obj.cells #[.int .i64 3, .int .i64 k, .int .i64 u] 31)) W') := Lib.hid HIb.out.top
          obtain ⟨g6, o6, cc6, e6, hc6, hg6, hp0, hp1⟩ := HIb.out.at0
          cases e6
          clear hp0 hp1
          clear hi
          go_upto_region 14 with (first
            | (go_at_call 12; (refine HTOP.out.mono ?_; rintro e w3 ⟨rfl, hb3⟩; have h3 := HIb.out.below (hb3.mono (by have := HZB.out; omega)); have h4 := h3.below ((Below.refl wr.heap.size w3).alloc (by have := hb3.size; have := HZB.out; omega) (Obj.cells #[.int .i64 y, .int .i64 z] 27)); have HI4 := Lib.hid h4; have x0 := (hb3.cell (p := ⟨wr.heap.size, 0, none⟩) (World.block_lt_of_cell? _ _ HX0.out)).trans HX0.out; have HX3 := Lib.hid x0; have HZ3 : Hid (wr.heap.size + 1 ≤ w3.heap.size) := Lib.hid (by have := hb3.size; have := HZB.out; omega); have x0' := (World.cell?_of_block (a := ⟨wr.heap.size, 0, none⟩) (heap_alloc_old' w3 (Obj.cells #[.int .i64 y, .int .i64 z] 27) wr.heap.size (by have := HZ3.out; omega))).trans x0; have HX4 := Lib.hid x0'; clear x0; have HPOP : Hid (Calls Try.prog 13 #[.pointer (some ⟨w1.heap.size, 0, none⟩)] (w3.alloc (Obj.cells #[.int .i64 y, .int .i64 z] 27)) fun e W' => e = .returned (.tuple #[.agg #[.int .i64 y, .int .i64 z], .bool true]) ∧ PlP w1 w1.heap.size wr.heap.size m (((y, z), p) :: S') _ W' ∧ (w3.alloc (Obj.cells #[.int .i64 y, .int .i64 z] 27)).heap.size ≤ W'.heap.size ∧ ∀ k, wr.heap.size ≤ k → k < (w3.alloc (Obj.cells #[.int .i64 y, .int .i64 z] 27)).heap.size → W'.heap[k]? = (w3.alloc (Obj.cells #[.int .i64 y, .int .i64 z] 27)).heap[k]?) := Lib.hid (h4.pop (by omega)); clear h3 h4 hb3))
            | (go_at_call 13; (refine HPOP.out.mono ?_; rintro e w5 ⟨rfl, h5, hz5, hk5⟩; have HP5 := Lib.hid h5; have HZ5 : Hid (w3.heap.size + 1 ≤ w5.heap.size) := Lib.hid (by rw [World.size_alloc] at hz5; exact hz5); have x5 := (World.cell?_of_block (a := ⟨wr.heap.size, 0, none⟩) ((hk5 _ (Nat.le_refl _) (by have := HZ3.out; rw [World.size_alloc]; omega)).trans (heap_alloc_old' w3 _ _ (by have := HZ3.out; omega)))).trans HX3.out; have hblk := (hk5 w3.heap.size (by have := HZ3.out; omega) (by rw [World.size_alloc]; omega)).trans (World.alloc_heap_new w3 _); have q0 := cell_of_row w5 _ 0 _ _ _ hblk; have q1 := cell_of_row w5 _ 1 _ _ _ hblk; have hfz := frozen_of_row w5 _ 0 _ _ hblk; have hfz1 := frozen_of_row w5 _ 1 _ _ hblk; simp at q0 q1; have HBK := Lib.hid hblk; have HX5 := Lib.hid x5; clear h5 hz5 hk5 hblk)))
          obtain ⟨w7, hw7⟩ : ∃ w7, (w5.setCell ⟨w3.heap.size, 0, none⟩ (.int .i64 y)).setCell ⟨w3.heap.size, 1, none⟩ (.int .i64 z) = w7 := ⟨_, rfl⟩
          rw [hw7]
          have h7 := HP5.out.below (((Below.refl wr.heap.size w5).setCell (p := ⟨w3.heap.size, 0, none⟩) (by have := HZ3.out; show wr.heap.size ≤ w3.heap.size; omega) (.int .i64 y)).setCell (p := ⟨w3.heap.size, 1, none⟩) (by have := HZ3.out; show wr.heap.size ≤ w3.heap.size; omega) (.int .i64 z))
          have r7 := heap_setCell_same _ w3.heap.size 1 _ _ (.int .i64 z) (heap_setCell_same w5 w3.heap.size 0 _ _ (.int .i64 y) HBK.out)
          have x7 := (World.cell?_of_block (a := ⟨wr.heap.size, 0, none⟩) ((Below.heap_setCell (w5.setCell ⟨w3.heap.size, 0, none⟩ (.int .i64 y)) ⟨w3.heap.size, 1, none⟩ (.int .i64 z) wr.heap.size (by have := HZ3.out; show wr.heap.size ≠ w3.heap.size; omega)).trans (Below.heap_setCell w5 ⟨w3.heap.size, 0, none⟩ (.int .i64 y) wr.heap.size (by have := HZ3.out; show wr.heap.size ≠ w3.heap.size; omega)))).trans HX5.out
          rw [hw7] at h7 r7 x7
          have c90 := cell_of_row w7 _ 0 _ _ _ r7
          have c91 := cell_of_row w7 _ 1 _ _ _ r7
          simp at c90 c91
          have h70 := h7.at0
          obtain ⟨g6', o6', cc6', e6', _, _, hp0, hp1⟩ := h70
          cases e6'
          have HC6 := Lib.hid hc6
          clear hc6 hg6
          obtain ⟨q, hq⟩ : ∃ q : Nat, S'.length + 1 = q := ⟨_, rfl⟩
          have hqi : (S'.length : Int) + 1 = (q : Int) := by omega
          have dq : decide ((0 : Int) < (q : Int)) = true := decide_eq_true (by omega)
          have dq1 : (1 : Int) ≤ (q : Int) := by omega
          have dq2 : (0 : Int) < (q : Int) := by omega
          have dq3 : 0 < q := by omega
          have dq4 : decide (0 < q) = true := decide_eq_true dq3
          have H7 := Lib.hid h7
          clear h7 r7 hw7
          rw [hq]
          have HQ := Lib.hid hq
          clear hq hqi
          go_quiet (fail)
          have h8 := H7.out.below (below_drewN wr.heap.size w7 nq)
          have x8 : (w7.drewN nq).cell? ⟨wr.heap.size, 0, none⟩ = some (.int .i64 3) := x7
          obtain ⟨w8, hw8⟩ : ∃ w8, w7.drewN nq = w8 := ⟨_, rfl⟩
          rw [hw8] at h8 x8 ⊢
          clear hw8 H7 c90 c91 x7 hp0 hp1
          have hi8 := h8.cut' rfl HC6.out
          have hc6 := HC6.out
          have hq' := HQ.out
          obtain ⟨q', hq1⟩ : ∃ q' : Nat, S'.length = q' := ⟨_, rfl⟩
          obtain ⟨cc, hcc⟩ : ∃ cc : Nat, c6 - 1 = cc := ⟨_, rfl⟩
          have s1 : q - 1 = q' := by omega
          have s2 : (1 : Int) ≤ (c6 : Int) := by omega
          have s3 : (q : Int) ≤ (c6 : Int) := by omega
          have s4 : ((q : Int) - 1) = (q' : Int) := by omega
          have HLN := Lib.hid hi8.len
          rw [hq1] at HLN hi8
          rw [hcc] at hi8
          have HI8 := Lib.hid hi8
          clear hi8 h8
          go_wp2_with (go_at_call 14; refine HLN.out.mono ?_; rintro e w' ⟨rfl, rfl⟩)
          go_roundw
          case rel => exact ⟨m + 1, _, _, by go_num, by omega, HI8.out.succ⟩
          case measure => simp [intOf]; omega
      by_cases hk4 : kd = 4
      · subst hk4
        rcases S with _ | ⟨⟨⟨y, z⟩, p⟩, S'⟩
        · have HTOP : Hid (Calls Try.prog 12 #[.pointer (some ⟨w1.heap.size, 0, none⟩)] (wr.alloc (Obj.cells #[.int .i64 4, .int .i64 k, .int .i64 u] 31)) fun e W' => e = .returned (.tuple #[.agg #[.int .i64 0, .int .i64 0], .bool false]) ∧ Below (wr.alloc (Obj.cells #[.int .i64 4, .int .i64 k, .int .i64 u] 31)).heap.size (wr.alloc (Obj.cells #[.int .i64 4, .int .i64 k, .int .i64 u] 31)) W') := Lib.hid HIb.out.top
          clear hi
          go_upto_region 14 with (first
            | (go_at_call 12; (refine HTOP.out.mono ?_; rintro e w3 ⟨rfl, hb3⟩; have h3 := HIb.out.below (hb3.mono (by have := HZB.out; omega)); have h4 := h3.below ((Below.refl wr.heap.size w3).alloc (by have := hb3.size; have := HZB.out; omega) (Obj.cells #[.int .i64 0, .int .i64 0] 27)); have HI4 := Lib.hid h4; have x0 := (hb3.cell (p := ⟨wr.heap.size, 0, none⟩) (World.block_lt_of_cell? _ _ HX0.out)).trans HX0.out; have HX3 := Lib.hid x0; have HZ3 : Hid (wr.heap.size + 1 ≤ w3.heap.size) := Lib.hid (by have := hb3.size; have := HZB.out; omega); have x0' := (World.cell?_of_block (a := ⟨wr.heap.size, 0, none⟩) (heap_alloc_old' w3 (Obj.cells #[.int .i64 0, .int .i64 0] 27) wr.heap.size (by have := HZ3.out; omega))).trans x0; have HX4 := Lib.hid x0'; clear x0; have HPOP : Hid (Calls Try.prog 13 #[.pointer (some ⟨w1.heap.size, 0, none⟩)] (w3.alloc (Obj.cells #[.int .i64 0, .int .i64 0] 27)) fun e W' => e = .returned (.tuple #[.agg #[.int .i64 0, .int .i64 0], .bool false]) ∧ PlP w1 w1.heap.size wr.heap.size m [] _ W' ∧ (w3.alloc (Obj.cells #[.int .i64 0, .int .i64 0] 27)).heap.size ≤ W'.heap.size ∧ ∀ k, wr.heap.size ≤ k → k < (w3.alloc (Obj.cells #[.int .i64 0, .int .i64 0] 27)).heap.size → W'.heap[k]? = (w3.alloc (Obj.cells #[.int .i64 0, .int .i64 0] 27)).heap[k]?) := Lib.hid (h4.pop (by omega)); clear h3 h4 hb3))
            | (go_at_call 13; (refine HPOP.out.mono ?_; rintro e w5 ⟨rfl, h5, hz5, hk5⟩; have HP5 := Lib.hid h5; have HZ5 : Hid (w3.heap.size + 1 ≤ w5.heap.size) := Lib.hid (by rw [World.size_alloc] at hz5; exact hz5); have x5 := (World.cell?_of_block (a := ⟨wr.heap.size, 0, none⟩) ((hk5 _ (Nat.le_refl _) (by have := HZ3.out; rw [World.size_alloc]; omega)).trans (heap_alloc_old' w3 _ _ (by have := HZ3.out; omega)))).trans HX3.out; have hblk := (hk5 w3.heap.size (by have := HZ3.out; omega) (by rw [World.size_alloc]; omega)).trans (World.alloc_heap_new w3 _); have q0 := cell_of_row w5 _ 0 _ _ _ hblk; have q1 := cell_of_row w5 _ 1 _ _ _ hblk; have hfz := frozen_of_row w5 _ 0 _ _ hblk; have hfz1 := frozen_of_row w5 _ 1 _ _ hblk; simp at q0 q1; have HBK := Lib.hid hblk; have HX5 := Lib.hid x5; clear h5 hz5 hk5 hblk)))
          obtain ⟨w7, hw7⟩ : ∃ w7, (w5.setCell ⟨w3.heap.size, 0, none⟩ (.int .i64 0)).setCell ⟨w3.heap.size, 1, none⟩ (.int .i64 0) = w7 := ⟨_, rfl⟩
          rw [hw7]
          have h7 := HP5.out.below (((Below.refl wr.heap.size w5).setCell (p := ⟨w3.heap.size, 0, none⟩) (by have := HZ3.out; show wr.heap.size ≤ w3.heap.size; omega) (.int .i64 0)).setCell (p := ⟨w3.heap.size, 1, none⟩) (by have := HZ3.out; show wr.heap.size ≤ w3.heap.size; omega) (.int .i64 0))
          have r7 := heap_setCell_same _ w3.heap.size 1 _ _ (.int .i64 0) (heap_setCell_same w5 w3.heap.size 0 _ _ (.int .i64 0) HBK.out)
          have x7 := (World.cell?_of_block (a := ⟨wr.heap.size, 0, none⟩) ((Below.heap_setCell (w5.setCell ⟨w3.heap.size, 0, none⟩ (.int .i64 0)) ⟨w3.heap.size, 1, none⟩ (.int .i64 0) wr.heap.size (by have := HZ3.out; show wr.heap.size ≠ w3.heap.size; omega)).trans (Below.heap_setCell w5 ⟨w3.heap.size, 0, none⟩ (.int .i64 0) wr.heap.size (by have := HZ3.out; show wr.heap.size ≠ w3.heap.size; omega)))).trans HX5.out
          rw [hw7] at h7 r7 x7
          have c90 := cell_of_row w7 _ 0 _ _ _ r7
          have c91 := cell_of_row w7 _ 1 _ _ _ r7
          simp at c90 c91
          have H7 := Lib.hid h7
          clear h7 r7 hw7
          go_quiet (fail)
          have h8 := H7.out.below (below_drewN wr.heap.size w7 nq)
          have x8 : (w7.drewN nq).cell? ⟨wr.heap.size, 0, none⟩ = some (.int .i64 4) := x7
          obtain ⟨w8, hw8⟩ : ∃ w8, w7.drewN nq = w8 := ⟨_, rfl⟩
          rw [hw8] at h8 x8 ⊢
          clear hw8 H7 c90 c91 x7
          have hi8 : PlI w1 w1.heap.size wr.heap.size m [] (.slice a6 0 c6) w8 := h8
          have HLN := Lib.hid hi8.len
          have HI8 := Lib.hid hi8
          clear hi8 h8
          go_wp2_with (go_at_call 14; refine HLN.out.mono ?_; rintro e w' ⟨rfl, rfl⟩)
          go_roundw
          case rel => exact ⟨m + 1, _, _, by go_num, by omega, HI8.out.succ⟩
          case measure => simp [intOf]; omega
        · have HTOP : Hid (Calls Try.prog 12 #[.pointer (some ⟨w1.heap.size, 0, none⟩)] (wr.alloc (Obj.cells #[.int .i64 4, .int .i64 k, .int .i64 u] 31)) fun e W' => e = .returned (.tuple #[.agg #[.int .i64 y, .int .i64 z], .bool true]) ∧ Below (wr.alloc (Obj.cells #[.int .i64 4, .int .i64 k, .int .i64 u] 31)).heap.size (wr.alloc (Obj.cells #[.int .i64 4, .int .i64 k, .int .i64 u] 31)) W') := Lib.hid HIb.out.top
          obtain ⟨g6, o6, cc6, e6, hc6, hg6, hp0, hp1⟩ := HIb.out.at0
          cases e6
          clear hp0 hp1
          clear hi
          go_upto_region 14 with (first
            | (go_at_call 12; (refine HTOP.out.mono ?_; rintro e w3 ⟨rfl, hb3⟩; have h3 := HIb.out.below (hb3.mono (by have := HZB.out; omega)); have h4 := h3.below ((Below.refl wr.heap.size w3).alloc (by have := hb3.size; have := HZB.out; omega) (Obj.cells #[.int .i64 y, .int .i64 z] 27)); have HI4 := Lib.hid h4; have x0 := (hb3.cell (p := ⟨wr.heap.size, 0, none⟩) (World.block_lt_of_cell? _ _ HX0.out)).trans HX0.out; have HX3 := Lib.hid x0; have HZ3 : Hid (wr.heap.size + 1 ≤ w3.heap.size) := Lib.hid (by have := hb3.size; have := HZB.out; omega); have x0' := (World.cell?_of_block (a := ⟨wr.heap.size, 0, none⟩) (heap_alloc_old' w3 (Obj.cells #[.int .i64 y, .int .i64 z] 27) wr.heap.size (by have := HZ3.out; omega))).trans x0; have HX4 := Lib.hid x0'; clear x0; have HPOP : Hid (Calls Try.prog 13 #[.pointer (some ⟨w1.heap.size, 0, none⟩)] (w3.alloc (Obj.cells #[.int .i64 y, .int .i64 z] 27)) fun e W' => e = .returned (.tuple #[.agg #[.int .i64 y, .int .i64 z], .bool true]) ∧ PlP w1 w1.heap.size wr.heap.size m (((y, z), p) :: S') _ W' ∧ (w3.alloc (Obj.cells #[.int .i64 y, .int .i64 z] 27)).heap.size ≤ W'.heap.size ∧ ∀ k, wr.heap.size ≤ k → k < (w3.alloc (Obj.cells #[.int .i64 y, .int .i64 z] 27)).heap.size → W'.heap[k]? = (w3.alloc (Obj.cells #[.int .i64 y, .int .i64 z] 27)).heap[k]?) := Lib.hid (h4.pop (by omega)); clear h3 h4 hb3))
            | (go_at_call 13; (refine HPOP.out.mono ?_; rintro e w5 ⟨rfl, h5, hz5, hk5⟩; have HP5 := Lib.hid h5; have HZ5 : Hid (w3.heap.size + 1 ≤ w5.heap.size) := Lib.hid (by rw [World.size_alloc] at hz5; exact hz5); have x5 := (World.cell?_of_block (a := ⟨wr.heap.size, 0, none⟩) ((hk5 _ (Nat.le_refl _) (by have := HZ3.out; rw [World.size_alloc]; omega)).trans (heap_alloc_old' w3 _ _ (by have := HZ3.out; omega)))).trans HX3.out; have hblk := (hk5 w3.heap.size (by have := HZ3.out; omega) (by rw [World.size_alloc]; omega)).trans (World.alloc_heap_new w3 _); have q0 := cell_of_row w5 _ 0 _ _ _ hblk; have q1 := cell_of_row w5 _ 1 _ _ _ hblk; have hfz := frozen_of_row w5 _ 0 _ _ hblk; have hfz1 := frozen_of_row w5 _ 1 _ _ hblk; simp at q0 q1; have HBK := Lib.hid hblk; have HX5 := Lib.hid x5; clear h5 hz5 hk5 hblk)))
          obtain ⟨w7, hw7⟩ : ∃ w7, (w5.setCell ⟨w3.heap.size, 0, none⟩ (.int .i64 y)).setCell ⟨w3.heap.size, 1, none⟩ (.int .i64 z) = w7 := ⟨_, rfl⟩
          rw [hw7]
          have h7 := HP5.out.below (((Below.refl wr.heap.size w5).setCell (p := ⟨w3.heap.size, 0, none⟩) (by have := HZ3.out; show wr.heap.size ≤ w3.heap.size; omega) (.int .i64 y)).setCell (p := ⟨w3.heap.size, 1, none⟩) (by have := HZ3.out; show wr.heap.size ≤ w3.heap.size; omega) (.int .i64 z))
          have r7 := heap_setCell_same _ w3.heap.size 1 _ _ (.int .i64 z) (heap_setCell_same w5 w3.heap.size 0 _ _ (.int .i64 y) HBK.out)
          have x7 := (World.cell?_of_block (a := ⟨wr.heap.size, 0, none⟩) ((Below.heap_setCell (w5.setCell ⟨w3.heap.size, 0, none⟩ (.int .i64 y)) ⟨w3.heap.size, 1, none⟩ (.int .i64 z) wr.heap.size (by have := HZ3.out; show wr.heap.size ≠ w3.heap.size; omega)).trans (Below.heap_setCell w5 ⟨w3.heap.size, 0, none⟩ (.int .i64 y) wr.heap.size (by have := HZ3.out; show wr.heap.size ≠ w3.heap.size; omega)))).trans HX5.out
          rw [hw7] at h7 r7 x7
          have c90 := cell_of_row w7 _ 0 _ _ _ r7
          have c91 := cell_of_row w7 _ 1 _ _ _ r7
          simp at c90 c91
          have h70 := h7.at0
          obtain ⟨g6', o6', cc6', e6', _, _, hp0, hp1⟩ := h70
          cases e6'
          have HC6 := Lib.hid hc6
          clear hc6 hg6
          obtain ⟨q, hq⟩ : ∃ q : Nat, S'.length + 1 = q := ⟨_, rfl⟩
          have hqi : (S'.length : Int) + 1 = (q : Int) := by omega
          have dq : decide ((0 : Int) < (q : Int)) = true := decide_eq_true (by omega)
          have dq1 : (1 : Int) ≤ (q : Int) := by omega
          have dq2 : (0 : Int) < (q : Int) := by omega
          have dq3 : 0 < q := by omega
          have dq4 : decide (0 < q) = true := decide_eq_true dq3
          have H7 := Lib.hid h7
          clear h7 r7 hw7
          rw [hq]
          have HQ := Lib.hid hq
          clear hq hqi
          go_quiet (fail)
          have h8 := H7.out.below (below_drewN wr.heap.size w7 nq)
          have x8 : (w7.drewN nq).cell? ⟨wr.heap.size, 0, none⟩ = some (.int .i64 4) := x7
          obtain ⟨w8, hw8⟩ : ∃ w8, w7.drewN nq = w8 := ⟨_, rfl⟩
          rw [hw8] at h8 x8 ⊢
          clear hw8 H7 c90 c91 x7 hp0 hp1
          have hi8 := h8.cut' rfl HC6.out
          have hc6 := HC6.out
          have hq' := HQ.out
          obtain ⟨q', hq1⟩ : ∃ q' : Nat, S'.length = q' := ⟨_, rfl⟩
          obtain ⟨cc, hcc⟩ : ∃ cc : Nat, c6 - 1 = cc := ⟨_, rfl⟩
          have s1 : q - 1 = q' := by omega
          have s2 : (1 : Int) ≤ (c6 : Int) := by omega
          have s3 : (q : Int) ≤ (c6 : Int) := by omega
          have s4 : ((q : Int) - 1) = (q' : Int) := by omega
          have HLN := Lib.hid hi8.len
          rw [hq1] at HLN hi8
          rw [hcc] at hi8
          have HI8 := Lib.hid hi8
          clear hi8 h8
          go_wp2_with (go_at_call 14; refine HLN.out.mono ?_; rintro e w' ⟨rfl, rfl⟩)
          go_roundw
          case rel => exact ⟨m + 1, _, _, by go_num, by omega, HI8.out.succ⟩
          case measure => simp [intOf]; omega
      · have e3 : (kd == 3) = false := by simpa using hk3
        have e4 : (kd == 4) = false := by simpa using hk4
        rcases S with _ | ⟨⟨⟨y, z⟩, p⟩, S'⟩
        · have HTOP : Hid (Calls Try.prog 12 #[.pointer (some ⟨w1.heap.size, 0, none⟩)] (wr.alloc (Obj.cells #[.int .i64 kd, .int .i64 k, .int .i64 u] 31)) fun e W' => e = .returned (.tuple #[.agg #[.int .i64 0, .int .i64 0], .bool false]) ∧ Below (wr.alloc (Obj.cells #[.int .i64 kd, .int .i64 k, .int .i64 u] 31)).heap.size (wr.alloc (Obj.cells #[.int .i64 kd, .int .i64 k, .int .i64 u] 31)) W') := Lib.hid HIb.out.top
          clear hi
          go_upto_region 14 with (first
            | (go_at_call 12; (refine HTOP.out.mono ?_; rintro e w3 ⟨rfl, hb3⟩; have h3 := HIb.out.below (hb3.mono (by have := HZB.out; omega)); have h4 := h3.below ((Below.refl wr.heap.size w3).alloc (by have := hb3.size; have := HZB.out; omega) (Obj.cells #[.int .i64 0, .int .i64 0] 27)); have HI4 := Lib.hid h4; have x0 := (hb3.cell (p := ⟨wr.heap.size, 0, none⟩) (World.block_lt_of_cell? _ _ HX0.out)).trans HX0.out; have HX3 := Lib.hid x0; have HZ3 : Hid (wr.heap.size + 1 ≤ w3.heap.size) := Lib.hid (by have := hb3.size; have := HZB.out; omega); have x0' := (World.cell?_of_block (a := ⟨wr.heap.size, 0, none⟩) (heap_alloc_old' w3 (Obj.cells #[.int .i64 0, .int .i64 0] 27) wr.heap.size (by have := HZ3.out; omega))).trans x0; have HX4 := Lib.hid x0'; clear x0; clear h3 h4 hb3)))
          obtain ⟨w7, hw7⟩ : ∃ w7, w3.alloc (Obj.cells #[.int .i64 0, .int .i64 0] 27) = w7 := ⟨_, rfl⟩
          rw [hw7]
          have h7 := HI4.out
          have r7 := World.alloc_heap_new w3 (Obj.cells #[.int .i64 0, .int .i64 0] 27)
          have x7 := HX4.out
          rw [hw7] at h7 r7 x7
          have c90 := cell_of_row w7 _ 0 _ _ _ r7
          have c91 := cell_of_row w7 _ 1 _ _ _ r7
          simp at c90 c91
          have H7 := Lib.hid h7
          clear h7 r7 hw7
          go_quiet (fail)
          have h8 := H7.out.below (below_drewN wr.heap.size w7 nq)
          have x8 : (w7.drewN nq).cell? ⟨wr.heap.size, 0, none⟩ = some (.int .i64 kd) := x7
          obtain ⟨w8, hw8⟩ : ∃ w8, w7.drewN nq = w8 := ⟨_, rfl⟩
          rw [hw8] at h8 x8 ⊢
          clear hw8 H7 c90 c91 x7
          have hi8 : PlI w1 w1.heap.size wr.heap.size m [] (.slice a6 0 c6) w8 := h8
          have HLN := Lib.hid hi8.len
          have HI8 := Lib.hid hi8
          clear hi8 h8
          go_wp2_with (go_at_call 14; refine HLN.out.mono ?_; rintro e w' ⟨rfl, rfl⟩)
          go_roundw
          case rel => exact ⟨m + 1, _, _, by go_num, by omega, HI8.out.succ⟩
          case measure => simp [intOf]; omega
        · have HTOP : Hid (Calls Try.prog 12 #[.pointer (some ⟨w1.heap.size, 0, none⟩)] (wr.alloc (Obj.cells #[.int .i64 kd, .int .i64 k, .int .i64 u] 31)) fun e W' => e = .returned (.tuple #[.agg #[.int .i64 y, .int .i64 z], .bool true]) ∧ Below (wr.alloc (Obj.cells #[.int .i64 kd, .int .i64 k, .int .i64 u] 31)).heap.size (wr.alloc (Obj.cells #[.int .i64 kd, .int .i64 k, .int .i64 u] 31)) W') := Lib.hid HIb.out.top
          obtain ⟨g6, o6, cc6, e6, hc6, hg6, hp0, hp1⟩ := HIb.out.at0
          cases e6
          clear hp0 hp1
          clear hi
          go_upto_region 14 with (first
            | (go_at_call 12; (refine HTOP.out.mono ?_; rintro e w3 ⟨rfl, hb3⟩; have h3 := HIb.out.below (hb3.mono (by have := HZB.out; omega)); have h4 := h3.below ((Below.refl wr.heap.size w3).alloc (by have := hb3.size; have := HZB.out; omega) (Obj.cells #[.int .i64 y, .int .i64 z] 27)); have HI4 := Lib.hid h4; have x0 := (hb3.cell (p := ⟨wr.heap.size, 0, none⟩) (World.block_lt_of_cell? _ _ HX0.out)).trans HX0.out; have HX3 := Lib.hid x0; have HZ3 : Hid (wr.heap.size + 1 ≤ w3.heap.size) := Lib.hid (by have := hb3.size; have := HZB.out; omega); have x0' := (World.cell?_of_block (a := ⟨wr.heap.size, 0, none⟩) (heap_alloc_old' w3 (Obj.cells #[.int .i64 y, .int .i64 z] 27) wr.heap.size (by have := HZ3.out; omega))).trans x0; have HX4 := Lib.hid x0'; clear x0; clear h3 h4 hb3)))
          obtain ⟨w7, hw7⟩ : ∃ w7, w3.alloc (Obj.cells #[.int .i64 y, .int .i64 z] 27) = w7 := ⟨_, rfl⟩
          rw [hw7]
          have h7 := HI4.out
          have r7 := World.alloc_heap_new w3 (Obj.cells #[.int .i64 y, .int .i64 z] 27)
          have x7 := HX4.out
          rw [hw7] at h7 r7 x7
          have c90 := cell_of_row w7 _ 0 _ _ _ r7
          have c91 := cell_of_row w7 _ 1 _ _ _ r7
          simp at c90 c91
          have h70 := h7.at0
          obtain ⟨g6', o6', cc6', e6', _, _, hp0, hp1⟩ := h70
          cases e6'
          have HC6 := Lib.hid hc6
          clear hc6 hg6
          obtain ⟨q, hq⟩ : ∃ q : Nat, S'.length + 1 = q := ⟨_, rfl⟩
          have hqi : (S'.length : Int) + 1 = (q : Int) := by omega
          have dq : decide ((0 : Int) < (q : Int)) = true := decide_eq_true (by omega)
          have dq1 : (1 : Int) ≤ (q : Int) := by omega
          have dq2 : (0 : Int) < (q : Int) := by omega
          have dq3 : 0 < q := by omega
          have dq4 : decide (0 < q) = true := decide_eq_true dq3
          have H7 := Lib.hid h7
          clear h7 r7 hw7
          rw [hq]
          have HQ := Lib.hid hq
          clear hq hqi
          go_quiet (fail)
          have h8 := H7.out.below (below_drewN wr.heap.size w7 nq)
          have x8 : (w7.drewN nq).cell? ⟨wr.heap.size, 0, none⟩ = some (.int .i64 kd) := x7
          obtain ⟨w8, hw8⟩ : ∃ w8, w7.drewN nq = w8 := ⟨_, rfl⟩
          rw [hw8] at h8 x8 ⊢
          clear hw8 H7 c90 c91 x7 hp0 hp1
          have hi8 : PlI w1 w1.heap.size wr.heap.size m (((y, z), p) :: S') (.slice (some ⟨g6, o6, none⟩) (S'.length + 1) c6) w8 := h8
          have HLN := Lib.hid hi8.len
          have hlx : (((y, z), p) :: S').length = q := HQ.out
          rw [hlx] at HLN
          rw [HQ.out] at hi8
          have HI8 := Lib.hid hi8
          clear hi8 h8
          go_wp2_with (go_at_call 14; refine HLN.out.mono ?_; rintro e w' ⟨rfl, rfl⟩)
          go_roundw
          case rel => exact ⟨m + 1, _, _, by go_num, by omega, HI8.out.succ⟩
          case measure => simp [intOf]; omega
    · obtain rfl : m = n0 := by omega
      have hmb : wr.heap[w.heap.size]? = some (.cells #[.int .i64 a1] 3 (0, 0)) := (hi.bel.block _ (by have := HZ1.out; omega)).trans HN1.out
      have hm0 := cell_of_row wr _ 0 _ _ _ hmb
      have hmf := frozen_of_row wr _ 0 _ _ hmb
      simp at hm0
      obtain ⟨a6, c6, rfl⟩ := hi.form
      obtain ⟨q, hq1, hq2, hqw⟩ := most_i64 a1
      have hbut0 : But [w.heap.size] wr (wr.setCell ⟨w.heap.size, 0, none⟩ (.int .i64 q)) := (But.refl _ _).set (.inl (by simp)) _
      obtain ⟨own, l, puts, hH, hR, hP, hO, hown, hsz, hSm⟩ := hi.outer (by have := HZ1.out; omega) hmb hbut0
      have hmb2 := heap_setCell_same wr w.heap.size 0 _ _ (.int .i64 q) hmb
      have hwr : Below w.heap.size w wr := HB1.out.trans (hi.bel.mono (by have := HZ1.out; omega))
      have hwa : Below w.heap.size w (wr.setCell ⟨w.heap.size, 0, none⟩ (.int .i64 q)) := hwr.setCell (Nat.le_refl _) _
      obtain ⟨wa, hwae⟩ : ∃ wa, wr.setCell ⟨w.heap.size, 0, none⟩ (.int .i64 q) = wa := ⟨_, rfl⟩
      have hza : wa.heap.size = wr.heap.size := by rw [← hwae]; simp [World.setCell]
      rw [hwae] at hH hP hmb2 hwa
      simp at hmb2
      have HM := Lib.hid hmb2
      have HWA := Lib.hid hwa
      have HH := Lib.hid hH
      have HRP := Lib.hid hR
      have HPS := Lib.hid hP
      have HO := Lib.hid hO
      have HOW := Lib.hid hown
      have HSZ := Lib.hid hsz
      have HSM := Lib.hid hSm
      have HZA := Lib.hid hza
      clear hi hH hR hP hO hown hsz hSm hmb2 hwa hwr hbut0 hmb
      go_upto_region 28 with fail
      rw [← hza]
      clear hza hqw hwae hm0 hmf
      obtain ⟨W2, hW2⟩ : ∃ W2, (wa.alloc (Obj.cells #[] 27)).alloc (Obj.cells #[Value.slice (some ⟨wa.heap.size, 0, none⟩) 0 0] 29) = W2 := ⟨_, rfl⟩
      have b2 : Below wa.heap.size wa W2 := by rw [← hW2]; exact ((Below.refl _ _).alloc (Nat.le_refl _) _).alloc (by simp) _
      have z2 : W2.heap.size = wa.heap.size + 2 := by rw [← hW2]; simp
      have o2 : Boxed W2 (wa.heap.size + 1) 29 (.slice (some ⟨wa.heap.size, 0, none⟩) 0 0) := by
        have := Boxed.new (wa.alloc (.cells #[] 27)) 29 (.slice (some ⟨wa.heap.size, 0, none⟩) 0 0)
        rw [World.size_alloc] at this; rw [← hW2]; exact this
      have r2 : W2.ownsRow wa.heap.size 27 2 (.slice (some ⟨wa.heap.size, 0, none⟩) 0 0) 0 [] := by
        rw [← hW2]; exact World.ownsRow.alloc (own_empty wa _ _ _ (Nat.le_refl _)) _
      rw [hW2]
      have HB2 := Lib.hid b2
      have HZ2 := Lib.hid z2
      have HO2 := Lib.hid o2
      have HR2 := Lib.hid r2
      clear hW2 b2 z2 o2 r2
      go_wp2_with fail
      refine (drainP w1.heap.size W2).mono ?_
      rintro e w3 ⟨rfl, hw3⟩
      have hb3 : Below W2.heap.size W2 w3 := by rw [hw3]; exact (Below.refl _ _).alloc (Nat.le_refl _) _
      have hz3 : w3.heap.size = W2.heap.size + 1 := by rw [hw3]; simp
      have hp3 : w3.heap[W2.heap.size]? = some (.cells #[.pointer (some ⟨w1.heap.size, 0, none⟩)] 24 (0, 0)) := by rw [hw3]; exact World.alloc_heap_new W2 _
      have hz2 := HZ2.out
      have hz1 := HZ1.out
      have hza := HZA.out
      have hsz := HSZ.out
      have hba3 : Below wa.heap.size wa w3 := HB2.out.trans (hb3.mono (by omega))
      have hbn : w3.heap[w.heap.size]? = some (.cells #[.int .i64 q] 3 (0, 0)) := (hba3.block _ (by omega)).trans HM.out
      have hbo : Boxed w3 (wa.heap.size + 1) 29 (.slice (some ⟨wa.heap.size, 0, none⟩) 0 0) := (hb3.block _ (by omega)).trans HO2.out
      have hown2 := HOW.out
      obtain ⟨vh, hvh⟩ := HH.out
      have HJ0 : Hid (DrnJ Prod.fst 9 w1.heap.size W2.heap.size (wa.heap.size + 1) w3.heap.size own puts S wa 0 0 l w3) := Lib.hid ⟨⟨vh, hvh.below hba3 (Nat.le_refl _)⟩, HRP.out, ⟨Nat.zero_le _, Nat.le_refl _⟩, hp3, ⟨_, hbo, row_but HR2.out (own2 := []) (But.of_below hb3) (fun g hg hk => by cases hk), fun g hg => by
          obtain rfl : wa.heap.size = g := by simpa [Value.ownBlock] using hg
          exact ⟨by omega, by omega, by omega, by omega, fun hk => by have := (hown2 _ hk).2; omega⟩⟩, fun k hk => by
          have h1 := hown2 k hk
          exact ⟨by omega, by omega, by omega, by omega⟩, But.of_below hba3, by omega, by omega, by omega, by omega, by omega⟩
      have HZ3 : Hid (w3.heap.size = wa.heap.size + 3) := Lib.hid (by omega)
      have HBN := Lib.hid hbn
      clear hw3 hbo hz3 hb3 hp3 hbn hz1 hz2 hown2 hvh hba3 hza hsz
      go_wp2_with fail
      rename_i K hKQ
      refine (wpIn_wide (n := 3)).1 ?_
      refine wpIn_actG ?_
      intro A hA
      obtain ⟨sl, hsl⟩ : ∃ sl, S.length = sl := ⟨_, rfl⟩
      have HSL := Lib.hid hsl
      rw [hsl] at hA
      have hps0 := HPS.out
      have ho0 := HO.out
      rw [hsl] at hps0 ho0
      clear HPS HO
      have HPS := Lib.hid hps0
      have HO := Lib.hid ho0
      clear hps0 ho0
      obtain ⟨kk, hkk⟩ : ∃ kk, min q sl = kk := ⟨_, rfl⟩
      have HKK := Lib.hid hkk
      -- what is left behind the loop
      have tail : ∀ (k : Nat) (l1 : List ((Int × Int) × Int)) (W : World), DrnJ Prod.fst 9 w1.heap.size W2.heap.size (wa.heap.size + 1) w3.heap.size own puts S wa k k l1 W → S.take k = S.take q → k = min q sl → W.heap[w3.heap.size]? = some (.deferred (some [])) →
          K { A with defers := { target := .collected w3.heap.size, args := #[] } :: A.defers } W := by
        intro k l1 W hj htk hkm hD
        obtain rfl : k = kk := by omega
        rw [hA]
        refine hKQ _ _ ?_
        obtain ⟨vo, hvo, hrow, hne⟩ := hj.out
        have hc := hvo.cell
        have hrl := hj.rep.len
        rw [List.length_drop, HSL.out] at hrl
        have hsm := HSM.out
        rw [HSL.out] at hsm
        have hz1 := HZ1.out
        have hza := HZA.out
        have hsz := HSZ.out
        have hwm : W.heap[w.heap.size]? = some (.cells #[.int .i64 q] 3 (0, 0)) := (hj.but.block _ (by omega) (fun hm => by
          rcases List.mem_cons.1 hm with e | e
          · omega
          · have := (HOW.out _ e).1; omega)).trans HM.out
        have hm0 := cell_of_row W _ 0 _ _ _ hwm
        simp at hm0
        obtain ⟨vH, hH⟩ := hj.heap
        have hps : PrsP W.heap.size W (.slice a6 sl c6) (S.map Prod.fst) := (HPS.out.but hj.but (fun ad q' c e h0 hk => by
          rcases List.mem_cons.1 hk with e2 | e2
          · rcases HPS.out with ⟨_, _, _, e3⟩ | ⟨g, off, cap, e3, hlt, _⟩
            · rw [e3] at e; cases e; omega
            · rw [e3] at e; cases e
              have : g < n := hlt
              have : g = wa.heap.size + 1 := e2
              omega
          · exact HO.out _ _ _ e h0 e2) (by omega)).mono (show n ≤ W.heap.size from by have := hj.but.size; omega)
        have hgot : PrsP W.heap.size W vo ((S.map Prod.fst).take k) := by
          rw [← List.map_take]
          have hl : ((S.take k).map Prod.fst).length = k := by rw [List.length_map, List.length_take]; omega
          exact PrsP.of_owns (by rw [hl]; exact hrow)
        obtain ⟨ag, cg, rfl⟩ := own_form hrow
        have hpt := hps.take (k := k) (by omega)
        have hlt : ((S.map Prod.fst).take k).length = k := by rw [List.length_take, List.length_map]; omega
        have HSA : Hid (∀ W', Below W.heap.size W W' → Calls Try.prog 16 #[.slice ag k cg, .slice a6 k c6] W' fun e w' => e = .returned (.bool true) ∧ Below W'.heap.size W' w') := Lib.hid (fun W' hb => refSame_any ag a6 k k cg c6 _ (by rw [hlt]; omega) W' ((hgot.below hb (Nat.le_refl _)).mono hb.size) ((hpt.below hb (Nat.le_refl _)).mono hb.size))
        have HLN : Hid (∀ W', Below W.heap.size W W' → Calls Try.prog 14 #[.pointer (some ⟨w1.heap.size, 0, none⟩)] W' fun e w' => e = .returned (.int .i64 ((sl - k : Nat) : Int)) ∧ W' = w') := Lib.hid (fun W' hb => by
          rw [hrl]
          exact hlenP W' (hH.below hb (Nat.le_refl _)))
        have hxs : ((sl : Int) - (k : Int)) = ((sl - k : Nat) : Int) := by omega
        have hwrp : IntKind.i64.wrap ((sl - k : Nat) : Int) = ((sl - k : Nat) : Int) := by rw [IntKind.wrap_i64]; omega
        have hmin : (if (sl : Int) < (q : Int) then (sl : Int) else (q : Int)) = (k : Int) := by
          by_cases h2 : (sl : Int) < (q : Int)
          · rw [if_pos h2]; omega
          · rw [if_neg h2]; omega
        have hmin2 : (if sl < q then (sl : Int) else (q : Int)) = (k : Int) := by
          by_cases h2 : sl < q
          · rw [if_pos h2]; omega
          · rw [if_neg h2]; omega
        have d1 : (0 : Int) ≤ k := by omega
        have d2 : (k : Int) ≤ sl := by omega
        have d3 : (k : Int) ≤ c6 := by
          rcases HPS.out with ⟨e, _, _, e3⟩ | ⟨g, off, cap, e3, hlt, hcap, _⟩
          · have : sl = 0 := by rw [← HSL.out]; simpa using congrArg List.length e
            omega
          · cases e3
            omega
        have HD := Lib.hid hD
        have HBJ := Lib.hid hj.but
        have HW3 : Hid (w3.heap.size < W.heap.size) := Lib.hid (by
          have := Array.getElem?_eq_some_iff.1 hD
          exact this.1)
        clear hj htk hkm hD hvo hrow hne hrl hsm hz1 hza hsz hwm hH hps hgot hpt hlt hsl hkk
        go_upto_region 33 with fail
        have hbo : W.cell? ⟨wa.heap.size + 1, 0, none⟩ = some (.slice ag k cg) := hc
        have hbl := World.block_lt_of_cell? W _ hbo
        have HBL := Lib.hid hbl
        have HC := Lib.hid hbo
        clear hbl hbo hc hm0
        have HS0 : Hid (W.cell? ⟨wa.heap.size + 1, 0, none⟩ = some (.slice ag k cg) → ∀ W', Below W.heap.size W W' → (Below W.heap.size W W' ∧ W'.cell? ⟨wa.heap.size + 1, 0, none⟩ = some (.slice ag k cg))) := Lib.hid (fun h W' hb => ⟨hb, (hb.cell HBL.out).trans h⟩)
        have HKEEP : Hid (∀ W' W'', (Below W.heap.size W W' ∧ W'.cell? ⟨wa.heap.size + 1, 0, none⟩ = some (.slice ag k cg)) → Below W'.heap.size W' W'' → (Below W.heap.size W W'' ∧ W''.cell? ⟨wa.heap.size + 1, 0, none⟩ = some (.slice ag k cg))) := Lib.hid (fun W' W'' h hb => HS0.out HC.out W'' (h.1.trans (hb.mono h.1.size)))
        have HSA' : Hid (∀ W', (Below W.heap.size W W' ∧ W'.cell? ⟨wa.heap.size + 1, 0, none⟩ = some (.slice ag k cg)) → Calls Try.prog 16 #[.slice ag k cg, .slice a6 k c6] W' fun e w' => e = .returned (.bool true) ∧ Below W'.heap.size W' w') := Lib.hid (fun W' h => HSA.out W' h.1)
        have HLN' : Hid (∀ W', (Below W.heap.size W W' ∧ W'.cell? ⟨wa.heap.size + 1, 0, none⟩ = some (.slice ag k cg)) → Calls Try.prog 14 #[.pointer (some ⟨w1.heap.size, 0, none⟩)] W' fun e w' => e = .returned (.int .i64 ((sl - k : Nat) : Int)) ∧ W' = w') := Lib.hid (fun W' h => HLN.out W' h.1)
        go_region_held3 (fun W' => Below W.heap.size W W' ∧ W'.cell? ⟨wa.heap.size + 1, 0, none⟩ = some (.slice ag k cg)) (first | assumption | (exact HS0.out HC.out _ (Below.refl _ _).drew) | (exact HS0.out HC.out _ (Below.refl _ _)) | (exact HKEEP.out _ _ (by assumption) (Below.refl _ _).drew) | go_keep) ((first
          | (go_at_call 16; refine (HSA'.out _ (by assumption)).mono ?_; rintro e w4 ⟨rfl, b4⟩; have s4 := HKEEP.out _ _ (by assumption) b4)
          | (go_at_call 14; refine (HLN'.out _ (by assumption)).mono ?_; rintro e w5 ⟨rfl, rfl⟩)))
        have hD4 : w4.heap[w3.heap.size]? = some (.deferred (some [])) := (s4.1.block _ HW3.out).trans HD.out
        have HD4 := Lib.hid hD4
        have HS4 := Lib.hid s4.1
        clear s4 hD4
        go_wp2_with fail
        refine ⟨by simp, .inl ⟨_, _, rfl, run_takeDeferred HD4.out, ?_⟩⟩
        refine ⟨_, results_tmp rfl _ _ _, rfl, ?_⟩
        have hz1 := HZ1.out
        have hza := HZA.out
        have hsz := HSZ.out
        have hz3 := HZ3.out
        have hs4 := HS4.out.size
        have h1 : Below w.heap.size wa W := HBJ.out.below (fun k hk => by
          rcases List.mem_cons.1 hk with e | e
          · omega
          · have := (HOW.out _ e).1; omega) (by omega)
        have hzW := h1.size
        have h2 : Below w.heap.size wa w4 := h1.trans (HS4.out.mono (by omega))
        exact HWA.out.trans (h2.trans ((But.putObj w4 w3.heap.size _).below (fun k hk => by simp at hk; omega) (by omega)))
      have HTAIL := Lib.hid tail
      clear tail
      refine rangeG rfl (by omega) (gf := 45) (lb := #[.pointer (some ⟨W2.heap.size, 0, none⟩)]) (by rw [hA]; rfl) trivial (enters_of Try.func45 (by kernel_rfl) rfl) (encs := fun (x : Int × Int) => #[valP x]) (fun _ => rfl)
        (fun (s : Nat × List ((Int × Int) × Int)) W => DrnJ Prod.fst 9 w1.heap.size W2.heap.size (wa.heap.size + 1) w3.heap.size own puts S wa s.1 s.1 s.2 W ∧ s.1 < q) (fun (s : Nat × List ((Int × Int) × Int)) (x : Int × Int) W => DrnJ Prod.fst 9 w1.heap.size W2.heap.size (wa.heap.size + 1) w3.heap.size own puts S wa (s.1 + 1) s.1 (takeL' (ahK Prod.fst) s.2) W ∧ (∃ p, S[s.1]? = some (x, p)) ∧ s.1 < q)
        (fun (s : Nat × List ((Int × Int) × Int)) (x : Int × Int) a1' W => (DrnJ Prod.fst 9 w1.heap.size W2.heap.size (wa.heap.size + 1) w3.heap.size own puts S wa (s.1 + 1) s.1 (takeL' (ahK Prod.fst) s.2) W ∧ s.1 < q) ∧ (∃ p, S[s.1]? = some (x, p)) ∧ ∃ Bx, w3.heap.size + 2 ≤ Bx ∧ W.heap[Bx]? = some (.cells #[.int .i64 x.1, .int .i64 x.2] 27 (0, 0)) ∧ a1' = { tmps := (A.tmps.setIfInBounds 114 (valP x)).setIfInBounds 12 (.pointer (some ⟨Bx, 0, none⟩)), defers := [] })
        (fun c W => c = .exit 3 ∧ ∃ l1, DrnJ Prod.fst 9 w1.heap.size W2.heap.size (wa.heap.size + 1) w3.heap.size own puts S wa q q l1 W) (fun s s' => s.1 < S.length ∧ s'.1 = s.1 + 1) (fun s _ => s.2 = [] ∧ s.1 = S.length) (0, l)
        (fun s W o k hk h => ⟨DrnJ.noRec (by have := HZ3.out; omega) W o k hk h.1, h.2⟩)
        (fun s x a1' W o k hk ⟨⟨h1, hg⟩, h2, Bx, h3, h4, h5⟩ => ⟨⟨DrnJ.noRec (by have := HZ3.out; omega) W o k hk h1, hg⟩, h2, Bx, h3, (World.putObj_heap_other (by rcases hk with rfl | rfl <;> omega)).trans h4, h5⟩)
        (fun c W o k hk ⟨h0, l1, h⟩ => ⟨h0, l1, DrnJ.noRec (by have := HZ3.out; omega) W o k hk h⟩) (fun _ _ _ _ _ h => h) (fun r => ⟨(HJ0.out.alloc _).alloc _, hq1⟩)
        (drain1P ordP (drnC (by rw [HSL.out]; have := HSM.out; rw [HSL.out] at this; omega) (fun k => k < q)))
        ?assign ?body ?done ?stop
      case assign =>
        rintro lx s ⟨x, u⟩ W K' ⟨hj, hx, hg⟩ hzW hK
        rw [hA] at hK ⊢
        unfold valP at hK ⊢
        gi_wp2
        exact hK _ _ ⟨⟨hj.alloc _, hg⟩, hx, W.heap.size, hzW, World.alloc_heap_new W _, rfl⟩ ⟨heap_alloc_old' W _ _ (by omega), heap_alloc_old' W _ _ (by omega)⟩
      case body =>
        rintro lx ⟨k, l1⟩ ⟨x, u⟩ a1' V ⟨⟨hj, hkq⟩, ⟨p, hx⟩, Bx, hBx, hbx, rfl⟩ hzV
        simp only at hj hx hkq ⊢
        have hx0 := cell_of_row V _ 0 _ _ _ hbx
        have hx1 := cell_of_row V _ 1 _ _ _ hbx
        simp at hx0 hx1
        obtain ⟨i0, hi, hz0, hz1', hz2⟩ := info_parts infoTP
        obtain ⟨vo, hvo, hrow, hne⟩ := hj.out
        have hc := hvo.cell
        have hklt : k < S.length := (List.getElem?_eq_some_iff.1 hx).1
        have hkl2 : k < sl := by rw [HSL.out] at hklt; exact hklt
        have hsl200 : sl ≤ 200 := by have := HSM.out; rw [HSL.out] at this; omega
        have hz3 := HZ3.out
        have hza := HZA.out
        have hsz := HSZ.out
        have hz1 := HZ1.out
        have hcn : V.heap[w.heap.size]? = some (.cells #[.int .i64 q] 3 (0, 0)) := (hj.but.block _ (by omega) (fun hm => by
          rcases List.mem_cons.1 hm with e | e
          · omega
          · have := (HOW.out _ e).1; omega)).trans HM.out
        have HCN := Lib.hid hcn
        have HJ := Lib.hid hj
        have HX := Lib.hid hx
        have HVO := Lib.hid hvo
        have HROW := Lib.hid hrow
        have hzV2 : w3.heap.size ≤ V.heap.size := by omega
        have hnx : ((k : Int) + 1) = ((k + 1 : Nat) : Int) := by omega
        have HNX := Lib.hid hnx
        clear hj hx hbx hne hrow hvo hcn hnx
        unfold valP
        rw [hA]
        have HARM : Hid (∀ (v' : Value) (w5 : World), w5.ownsRow wa.heap.size 27 2 v' (k + 1) (flatVP ((S.take k).map Prod.fst) ++ [.int .i64 x, .int .i64 u]) → (V.alloc (.cells #[.int .i64 x, .int .i64 u] 27)).grownBy w5 vo.ownBlock → (v'.ownBlock = vo.ownBlock ∨ v'.ownBlock = some (V.alloc (.cells #[.int .i64 x, .int .i64 u] 27)).heap.size) →
          (DrnJ Prod.fst 9 w1.heap.size W2.heap.size (wa.heap.size + 1) w3.heap.size own puts S wa (k + 1) (k + 1) (takeL' (ahK Prod.fst) l1) (w5.setCell ⟨wa.heap.size + 1, 0, none⟩ v') ∧ SameRec w3.heap.size V (w5.setCell ⟨wa.heap.size + 1, 0, none⟩ v')) ∧ w5.cell? ⟨wa.heap.size + 1, 0, none⟩ = some vo ∧ w5.frozen? ⟨wa.heap.size + 1, 0, none⟩ = false ∧ w5.cell? ⟨w.heap.size, 0, none⟩ = some (.int .i64 q)) := Lib.hid (by
          intro v' w5 hown' hgrow hat
          have hb5 : Boxed w5 (wa.heap.size + 1) 29 vo := (HVO.out.alloc _).kept hgrow (fun e => HVO.out.not_row (by decide) HROW.out e)
          have hn5 : Boxed w5 w.heap.size 3 (.int .i64 q) := (Boxed.alloc HCN.out _).kept hgrow (fun e => by have := (World.ownsRow.lt HROW.out _ e.symm).1; omega)
          exact ⟨HJ.out.app HX.out (by omega) hzV HVO.out _ hown' hgrow hat, hb5.cell, hb5.frozen, hn5.cell⟩)
        have hwne : w.heap.size ≠ wa.heap.size + 1 := by omega
        have hwV : wa.heap.size ≤ V.heap.size := by omega
        clear hza hsz hz1 hz3
        by_cases hb : k + 1 = q
        · have hbq : (((k + 1 : Nat) : Int) == (q : Int)) = true := by rw [hb]; simp
          gi_wp2_with (gi_at_builtin; refine wpListIn_append_own_at _ rfl _ _ 29 rfl wa.heap.size 27 i0 (.agg #[.int .i64 0, .int .i64 0]) 2 16 Try.underlying29 hi hz0 hz1' hz2 rfl (by decide) _ _ _ rfl (HROW.out.alloc _) ⟨V.heap.size, 0, none⟩ 1 1 [.int .i64 x, .int .i64 u] rfl rfl (World.news_of_block (World.alloc_heap_new V _)) (by simp [Value.oneCell']) (by unfold maxLen; omega) (by omega) (by simp; omega) ?_; intro v' w5 hown' hgrow _ hat; have harm := HARM.out v' w5 hown' hgrow hat; obtain ⟨ha1, hc3, hf3, hn3⟩ := harm; have HA1 := Lib.hid ha1; obtain ⟨g', cap', rfl⟩ := ownsRow_succ hown'; clear ha1 hgrow hat hown')
          have h := HA1.out
          rw [hb] at h
          exact ⟨h.2, rfl, _, h.1⟩
        · have hbq : (((k + 1 : Nat) : Int) == (q : Int)) = false := by simp; omega
          gi_wp2_with (gi_at_builtin; refine wpListIn_append_own_at _ rfl _ _ 29 rfl wa.heap.size 27 i0 (.agg #[.int .i64 0, .int .i64 0]) 2 16 Try.underlying29 hi hz0 hz1' hz2 rfl (by decide) _ _ _ rfl (HROW.out.alloc _) ⟨V.heap.size, 0, none⟩ 1 1 [.int .i64 x, .int .i64 u] rfl rfl (World.news_of_block (World.alloc_heap_new V _)) (by simp [Value.oneCell']) (by unfold maxLen; omega) (by omega) (by simp; omega) ?_; intro v' w5 hown' hgrow _ hat; have harm := HARM.out v' w5 hown' hgrow hat; obtain ⟨ha1, hc3, hf3, hn3⟩ := harm; have HA1 := Lib.hid ha1; obtain ⟨g', cap', rfl⟩ := ownsRow_succ hown'; clear ha1 hgrow hat hown')
          exact ⟨HA1.out.2, (k + 1, takeL' (ahK Prod.fst) l1), ⟨hklt, rfl⟩, HA1.out.1, by show k + 1 < q; omega⟩
      case done =>
        rintro ⟨k, l1⟩ W ⟨hj, hkq⟩ ⟨he1, he2⟩ hD
        simp only at hj he1 he2 hkq
        exact HTAIL.out k l1 W hj (by rw [List.take_of_length_le (by omega), List.take_of_length_le (by omega)]) (by rw [HSL.out] at he2; omega) hD
      case stop =>
        rintro c W ⟨rfl, l1, hj⟩ hD
        refine wpIn_exit ?_
        simp only [Exit.inBlock, if_pos]
        have := hj.le.1
        exact HTAIL.out q l1 W hj rfl (by rw [HSL.out] at this; omega) hD


set_option maxRecDepth 100000 in
theorem lifted (os : Os) (started : os.Started) (H : Type) (enc : TypeId × Value → H) :
    ReturnsInHanded {} Try.checked os 3 .any (Rows.heapPlaysSpec.pre6 enc Try.prog Try.f3 Rows.heapPlaysRow.domain false) (Rows.heapPlaysSpec.post enc Try.prog Try.f3 false true false false) := by
  refine returnsInHanded_of_change (C := Try.checked) own started (by kernel_rfl) Try.func3
    (ChangeSpec.witness6 (enc := enc) (C := Try.checked) false ⟨#[], #[.slice none 0 0, .int .i64 0], []⟩ 8 (by kernel_rfl) (by kernel_rfl) (by kernel_rfl) (by kernel_rfl)) ?_
  intro W base args ds gs before hval0 hW hcnd _
  have hval : ∀ (j : Nat) t v, Try.f3.params[j]? = some t → args[j]? = some v → Value.okWide Try.prog W .any base t v := hval0
  have hW' := hW
  obtain ⟨p, q, hA0, hV, rfl, hfz, hnd⟩ := hW
  have hA : DataW.TrodAll enc Try.prog W 0 (fun _ => true) true Try.f3.params.toList args.toList ds p := hA0
  rw [Try.params3] at hA hval
  have hAk := hA
  obtain ⟨v0, vs0, d0, ds0, p0', q0, hargs, rfl, rfl, h0, r0⟩ := trodAll_cons hA
  obtain ⟨v1, vs1, d1, ds1, p1', q1, rfl, rfl, rfl, h1, r1⟩ := trodAll_cons r0
  obtain ⟨rfl, rfl, rfl⟩ := trodAll_nil r1
  obtain rfl : args = #[v0, v1] := by cases args; simp_all
  obtain ⟨rfl, rfl⟩ := trodVars_none hV
  simp only [List.append_nil] at hW' hAk
  have hlt := fun x hx => hW'.lt x hx
  clear hA0 hval0
  obtain ⟨p0, n0, c0, l0, rfl, S0, b0⟩ := open_hops (okWide_slice Try.underlying22 (hval 0 22 v0 rfl rfl)) h0
  obtain ⟨a1, rfl, rfl, rfl, w1⟩ := open_int Try.underlying3 (hval 1 3 v1 rfl rfl) h1
  refine (walk W p0 n0 c0 l0 S0 b0 a1 w1).mono fun e W' ⟨he, hg⟩ => ?_
  subst he
  have hargs := trodAll_below hg _ _ _ _ (by intro t ht; simp only [List.mem_cons, List.not_mem_nil, or_false] at ht; revert t; rintro t (rfl | rfl) <;> exact ⟨by kernel_rfl, of_decide_eq_true (by kernel_rfl)⟩) hAk (fun x hx => by simpa using hlt x hx)
  exact ⟨_, rfl, _, _, _, [], _, [], hW', (trodAll_cons_mk (shut_bool Try.underlying4 _) trodAll_mk0), hargs, rfl, hg.frame _, fun h => by cases h⟩

theorem over : Rows.heapPlaysRow.holds Try.pinned (OpenSpec.ofChange Rows.heapPlaysSpec) :=
  OpenClaim.holds_of_wide 3 Try.f3 rfl rfl rfl rfl rfl rfl rfl ⟨rfl, rfl, rfl, rfl, rfl⟩ rfl rfl rfl rfl rfl (by kernel_rfl) Try.func3 (by kernel_rfl)
    (of_decide_eq_true (by kernel_rfl)) (by unfold Func.isWrapper; first | (rw [if_pos (by decide +kernel)]; kernel_rfl) | (rw [if_neg (by decide +kernel)]; exact ⟨rfl, rfl⟩))
    (fun os started H enc _ => lifted os started H enc)

theorem proved : Rows.HeapPlaysSaid :=
  over
end Go.Proofs.Ytpdncgjepfgnjaa.heapPlays
