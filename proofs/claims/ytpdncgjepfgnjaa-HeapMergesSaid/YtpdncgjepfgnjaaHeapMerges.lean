/- For whatever lists and number law HeapMerges answers true: the things of lists come one by one, each time the least first thing of the lists, of the first list that has it, as far as is asked for. No condition. -/
import Derived.Test.YtpdncgjepfgnjaaHpAl
import Derived.Test.YtpdncgjepfgnjaaMrgG
import Derived.Test.YtpdncgjepfgnjaaOpenHm
import Derived.Test.YtpdncgjepfgnjaaRegionSeqR
namespace Go.Proofs.Ytpdncgjepfgnjaa.heapMerges
open Go.ChangeShapes Go.WideShapes Go.ChangeAt Go.RowKit Go.Proofs.Ytpdncgjepfgnjaa
set_option linter.unusedVariables false
attribute [local go_sem] Oper.semAt_some

set_option maxRecDepth 100000 in
set_option maxHeartbeats 2000000 in
theorem walk (w : World) (p0 : Option Addr) (n0 c0 : Nat) (u0 : List Value) (l0 : List (List (Int × Int))) (S0 : RowsP w (.slice p0 n0 c0) u0 l0) (b0 : (∀ xs ∈ l0, (∀ x ∈ xs, In64 x.1 ∧ In64 x.2) ∧ xs.length ≤ Go.maxLen) ∧ l0.length ≤ Go.maxLen) (a1 : Int) (w1 : (Lit.int .i64 a1).wf = true) :
    Calls Try.prog 6 #[.slice p0 n0 c0, .int .i64 a1] w fun e w' => e = .returned (.bool true) ∧ Below w.heap.size w w' := by
  have hlen := S0.len
  subst hlen
  have HS := Lib.hid S0
  have HAL := Lib.hid (fun W => heapAlive_any W)
  obtain ⟨n0, hn0⟩ : ∃ n, l0.length = n := ⟨_, rfl⟩
  have HN := Lib.hid hn0
  have hmax := b0.2
  have HIN := Lib.hid b0.1
  rw [hn0] at hmax ⊢
  have hn0' := hn0
  unfold maxLen at hmax
  clear S0 b0 hn0 w1
  by_cases hbig : 8 < n0
  · have c0' : decide ((8 : Int) < (n0 : Int)) = true := decide_eq_true (by omega)
    go_enter Try.func6, Try.ntmps6
    go_wp2_with (go_at_call 7; refine (HAL.out _).mono ?_; rintro e w1 ⟨rfl, hb⟩; have hs := start_pair hb; have HZ1 := Lib.hid hs.1; have HS1 := Lib.hid hs.2.1; have HR1 := Lib.hid hs.2.2.1; have HB1 := Lib.hid hs.2.2.2; have q1 := cell_of_row w1 _ 0 _ _ _ hs.2.1; have q2 := cell_of_row w1 _ 0 _ _ _ hs.2.2.1; have z1 := frozen_of_row w1 _ 0 _ _ hs.2.1; have z2 := frozen_of_row w1 _ 0 _ _ hs.2.2.1; simp at q1 q2; clear hb hs)
    (try simp only [Exit.inBlock, Exit.then])
    refine bodyPost_ret (v := .bool true) ?_ rfl ⟨rfl, HB1.out.setCell (by simp) _⟩
    rw [results_one rfl]
    simp [asAddr, Result.andThen]
    go_simp
  · have c0' : decide ((8 : Int) < (n0 : Int)) = false := decide_eq_false (by omega)
    have hle : n0 ≤ 8 := by omega
    obtain ⟨most, hm1, hm256, hmw⟩ := most_i64 a1
    refine (callsIn_wide (n := 3)).1 ?_
    refine callsIn_of_wp_marks Try.func6 rfl trivial ?_ rfl
    simp only [Try.ntmps6, List.size_toArray, List.length_cons, List.length_nil, Nat.reduceAdd, Nat.reduceSub, Array.replicate_succ, Array.replicate_zero, List.push_toArray, List.append_toArray, List.nil_append, List.cons_append]
    refine wpIn_wide.2 ?_
    go_upto_region 6 with (go_at_call 7; refine (HAL.out _).mono ?_; rintro e w1 ⟨rfl, hb⟩; have hs := start_pair hb; have HZ1 := Lib.hid hs.1; have HS1 := Lib.hid hs.2.1; have HR1 := Lib.hid hs.2.2.1; have HB1 := Lib.hid hs.2.2.2; have q1 := cell_of_row w1 _ 0 _ _ _ hs.2.1; have q2 := cell_of_row w1 _ 0 _ _ _ hs.2.2.1; have z1 := frozen_of_row w1 _ 0 _ _ hs.2.1; have z2 := frozen_of_row w1 _ 0 _ _ hs.2.2.1; simp at q1 q2; clear hb hs)
    obtain ⟨N, hNz⟩ : ∃ N, w1.heap.size = N := ⟨_, rfl⟩
    have hL0 := Lw1.start hNz HZ1.out HS1.out HR1.out HB1.out
    rw [hNz]
    obtain ⟨W1, hW1⟩ : ∃ W1, ((w1.alloc (.cells #[] 29)).alloc (.cells #[.slice (some ⟨N, 0, none⟩) 0 0] 57)) = W1 := ⟨_, rfl⟩
    rw [hW1] at hL0 ⊢
    have HL0 := Lib.hid hL0
    have HSW := Lib.hid (fun (W : World) (h : Below w.heap.size w W) => (⟨HS.out.row.below h, HS.out.each.below h (Nat.le_refl _)⟩ : Sl (fun v : Value => v) w.heap.size W (.slice p0 l0.length c0) u0 ∧ LL 0 w.heap.size W u0 l0))
    rw [hn0'] at HSW
    clear hn0'
    clear hL0 hW1 hNz HZ1 HS1 HR1 HB1 z1 z2 q1 q2
    go_wp2_with fail
    go_loopw [6, 22] (fun s i wr => ∃ (k : Nat) (sv : Value), s = .int .i64 (totL (l0.take k) : Nat) ∧ i = .int .i64 k ∧ k ≤ n0 ∧ (totL (l0.take k) ≤ 30 * k) ∧ (∀ xs ∈ l0.take k, xs.length ≤ 30) ∧ Lw1 N a1 w (l0.take k) sv wr) (fun _ i _ => n0 - (intOf i).toNat)
    case atStart => exact ⟨0, _, rfl, rfl, Nat.zero_le _, Nat.zero_le _, fun xs hx => by simp at hx, HL0.out⟩
    case round =>
      obtain ⟨k, sv, rfl, rfl, hk, htot, hshort, hL⟩ := hrel
      have HL := Lib.hid hL
      have HSH := Lib.hid hshort
      clear hL hshort HL0
      by_cases hlt : k < n0
      · obtain ⟨xs, hxs⟩ : ∃ xs, l0[k]? = some xs := ⟨_, List.getElem?_eq_getElem (by rw [HN.out]; exact hlt)⟩
        obtain ⟨hsl, hll⟩ := HSW.out wr HL.out.bel
        obtain ⟨v, hv, hpr⟩ := hll.at_ hxs
        obtain ⟨va, vc, rfl, _⟩ := hpr.form
        obtain ⟨b, off, rfl, hbl, hcv⟩ : ∃ b off, p0 = some ⟨b, off, none⟩ ∧ b < w.heap.size ∧ wr.cell? ⟨b, off + k, none⟩ = some (.slice va xs.length vc) := by
          rcases hsl with ⟨rfl, _⟩ | ⟨b, off, cap, e, hb, _, hc⟩
          · simp at hv
          · cases e; exact ⟨b, off, rfl, hb, hc k _ hv⟩
        have b1 : (0 : Int) ≤ k := by omega
        have b2 : (k : Int) < n0 := by omega
        have HXS := Lib.hid hxs
        have HPR := Lib.hid hpr
        obtain ⟨m, hm⟩ : ∃ m, xs.length = m := ⟨_, rfl⟩
        have HM := Lib.hid hm
        rw [hm] at hcv HPR
        clear hxs hsl hll hv hpr hm
        by_cases h30 : 30 < m
        · have d1 : decide ((30 : Int) < (m : Int)) = true := decide_eq_true (by omega)
          have hc4 := cell_of_row wr _ 0 _ _ _ HL.out.b4
          have hf4 := frozen_of_row wr _ 0 _ _ HL.out.b4
          simp at hc4
          go_wp2_with fail
          (try simp only [Exit.inBlock, Exit.then])
          refine ⟨.bool true, ?_, rfl, HL.out.bel.setCell (by simp) _⟩
          rw [results_one rfl]
          simp [asAddr, Result.andThen]
          go_simp
        · have d1 : decide ((30 : Int) < (m : Int)) = false := decide_eq_false (by omega)
          obtain ⟨t, ht⟩ : ∃ t, totL (l0.take k) = t := ⟨_, rfl⟩
          rw [ht]
          go_upto_region 12 with fail
          have HHI : Hid (w.heap.size ≤ wr.heap.size) := Lib.hid HL.out.bel.size
          refine region_seq (l := [_, _, _, _, _]) (t := [_, _]) (by kernel_rfl) (by decide +kernel) (by decide +kernel) (fun v => { tmps := #[.slice (some ⟨b, off, none⟩) n0 c0, .int .i64 a1, undef, .pointer (some ⟨w.heap.size, 0, none⟩), .pointer (some ⟨w.heap.size + 1, 0, none⟩), .pointer (some ⟨N + 1, 0, none⟩), .int .i64 (t : Nat), undef, .slice va m vc, undef, undef, undef, undef, undef, .bool true, .bool false, .slice (some ⟨b, off, none⟩) n0 c0, .int .i64 (n0 : Nat), .bool false, .slice (some ⟨N, 0, none⟩) 0 0, .slice (some ⟨b, off, none⟩) n0 c0, .int .i64 (n0 : Nat), .int .i64 (k : Nat), .bool true, .pointer (some ⟨b, off + k, none⟩), .slice va m vc, .slice va m vc, .int .i64 (m : Nat), .bool false, v 0, v 1, v 2, v 3, v 4, v 5, u35, u36, u37, u38, u39, undef, undef, undef, undef, undef, undef, undef, undef, undef, undef, undef, undef, undef, undef, undef, undef, undef, undef, undef, undef, undef, undef, undef, undef, undef, undef, undef, undef, undef, undef, undef, undef, undef, undef, undef, undef, undef, undef, undef, undef, undef, undef, undef, undef, undef, undef, undef, undef, undef, undef, undef, undef, undef, undef, undef, undef, undef, undef, undef, undef, undef, undef, undef, undef, undef, undef], defers := [] }) (fun W => Below wr.heap.size wr W) (fun i' u W => match i' with
            | 0 => u = sv
            | 1 => ∃ ad : Addr, u = .slice (some ad) 0 0
            | 2 => u = .slice va m vc
            | 3 => PrL wr.heap.size W.heap.size W u xs
            | 4 => ∃ (q : Nat) (x : Value), u = .slice (some ⟨q, 0, none⟩) 1 1 ∧ W.cell? ⟨q, 0, none⟩ = some x ∧ q < W.heap.size ∧ PrL wr.heap.size W.heap.size W x xs
            | _ => True) (fun A B => Below A.heap.size A B) ?hC ?hV (fun i => match i with | 0 => u29 | 1 => u30 | 2 => u31 | 3 => u32 | 4 => u33 | _ => u34) ?h0 ?hop ?hend
          case hC => exact fun A B h h2 => h.trans (h2.mono h.size)
          case h0 => exact (Below.refl _ wr).drew
          case hV =>
            intro i' u A B h hx
            match i', h with
            | 0, h => exact h
            | 1, h => exact h
            | 2, h => exact h
            | 3, h => exact ((show PrL _ _ A u xs from h).below hx (Nat.le_refl _)).mono (Nat.le_refl _) hx.size
            | 4, h =>
              obtain ⟨q, x, h1, h2, h3, h4⟩ : ∃ (q : Nat) (x : Value), u = .slice (some ⟨q, 0, none⟩) 1 1 ∧ A.cell? ⟨q, 0, none⟩ = some x ∧ q < A.heap.size ∧ PrL wr.heap.size A.heap.size A x xs := h
              exact ⟨q, x, h1, (hx.cell (p := ⟨q, 0, none⟩) h3).trans h2, Nat.lt_of_lt_of_le h3 hx.size, (h4.below hx (Nat.le_refl _)).mono (Nat.le_refl _) hx.size⟩
            | n + 5, h => trivial
          case hop =>
            simp only [AllDo]
            refine ⟨?o0, ?o1, ?o2, ?o3, ?o4, trivial⟩
            all_goals intro v W hc hd Q hQ
            all_goals simp [Region.binds] at hd
            all_goals rw [if_pos (show Region.wanted _ _ = true from rfl)]
            case o0 =>
              have hbx := cell_of_row W _ 0 _ _ _ ((hc.block (N + 1) (lt_of_get HL.out.box)).trans HL.out.box)
              simp at hbx
              go_wp2
              exact ⟨_, rfl, Below.refl _ _, rfl⟩
            case o1 =>
              go_wp2
              exact ⟨_, rfl, (Below.refl _ _).alloc (Nat.le_refl _) _, _, rfl⟩
            case o2 =>
              go_wp2
              exact ⟨_, rfl, Below.refl _ _, rfl⟩
            case o3 =>
              obtain ⟨⟨ad, h1⟩, h2⟩ := hd
              go_wp2_with (refine wpList_append_fresh _ rfl _ _ rfl ad h1 0 w.heap.size _ xs h2 (HPR.out.below hc HHI.out) (by rw [HM.out]; omega) ?_; intro v3 W3 hp3 hb3)
              refine ⟨v3, by simp [updV, h1, h2], ?_⟩
              exact hp3.mono hc.size (Nat.le_refl _)
            case o4 =>
              have hd' : PrL wr.heap.size W.heap.size W (v 3) xs := hd
              obtain ⟨a3, c3, e3, _⟩ := hd'.form
              rw [e3] at hd'
              have hbn : Below W.heap.size W (W.alloc (.cells #[.slice a3 xs.length c3] 29)) := (Below.refl _ _).alloc (Nat.le_refl _) _
              have h4 : ∃ (q : Nat) (x : Value), (.slice (some ⟨W.heap.size, 0, none⟩) 1 1 : Value) = .slice (some ⟨q, 0, none⟩) 1 1 ∧ (W.alloc (.cells #[.slice a3 xs.length c3] 29)).cell? ⟨q, 0, none⟩ = some x ∧ q < (W.alloc (.cells #[.slice a3 xs.length c3] 29)).heap.size ∧ PrL wr.heap.size (W.alloc (.cells #[.slice a3 xs.length c3] 29)).heap.size (W.alloc (.cells #[.slice a3 xs.length c3] 29)) x xs := ⟨W.heap.size, _, rfl, cell_new_row W _ _ 0, by simp, (hd'.below hbn (Nat.le_refl _)).mono (Nat.le_refl _) hbn.size⟩
              go_wp2
              refine ⟨_, ?_, hbn, h4⟩
              simp [updV, e3]
          case hend =>
            intro v W hc hv
            have e0 : v 0 = sv := hv 0 (by decide)
            obtain ⟨q, x, e4, hqx, hql, hqp⟩ : ∃ (q : Nat) (x : Value), v 4 = .slice (some ⟨q, 0, none⟩) 1 1 ∧ W.cell? ⟨q, 0, none⟩ = some x ∧ q < W.heap.size ∧ PrL wr.heap.size W.heap.size W x xs := hv 4 (by decide)
            obtain ⟨vs, hR, hLs, hO⟩ := HL.out.cp.row
            have htk : (l0.take k).length = k := by rw [List.length_take, HN.out]; omega
            rw [htk] at hR
            have hRW := row_but hR (But.of_below (own := []) hc) (fun g _ h => by cases h)
            have hbx := cell_of_row W _ 0 _ _ _ ((hc.block (N + 1) (lt_of_get HL.out.box)).trans HL.out.box)
            have hfx := frozen_of_row W _ 0 _ _ ((hc.block (N + 1) (lt_of_get HL.out.box)).trans HL.out.box)
            simp at hbx
            obtain ⟨xa, xn, xc, exx⟩ : ∃ xa xn xc, x = .slice xa xn xc := by
              obtain ⟨a3, c3, e3, _⟩ := hqp.form
              exact ⟨_, _, _, e3⟩
            obtain ⟨i1, hi1, hy0, hy1, hy2⟩ := info_parts infoPs
            have hNW : N ≤ W.heap.size := by have := lt_of_get HL.out.box; have := hc.size; omega
            clear hv
            simp only [SeqDoes]
            intro Q1 hQ1
            rw [if_pos (show Region.wanted _ _ = true from rfl)]
            refine wpList_append_own_at W rfl (.tmp 29) (.tmp 33) 57 rfl N 29 i1 (.slice none 0 0) 1 24 Try.underlying57 hi1 hy0 hy1 hy2 rfl (by decide) sv k vs e0 hRW ⟨q, 0, none⟩ 1 1 [x] e4 rfl (fun j u hj => ?ha1) (fun u hu => ?ha2) (by unfold maxLen; omega) (by omega) hNW ?_
            case ha1 =>
              match j, hj with
              | 0, hj => simp at hj; subst hj; rw [add_pl]; exact hqx
              | j + 1, hj => simp at hj
            case ha2 => simp at hu; subst hu; rw [exx]; rfl
            intro sv' W' hr' hg hnil hat
            obtain ⟨sa', sc', rfl⟩ := row_form hr'
            have hsn := Lw1.snoc HL.out (by rw [htk]; exact hR) hLs hO hc hqp (by rw [htk]; exact hr') hg hat
            have hbo := hg.block (N + 1) (by have := lt_of_get HL.out.box; have := hc.size; omega) (fun e => HL.out.ne e.symm)
            have hbx' := (World.cell?_of_block (a := ⟨N + 1, 0, none⟩) hbo).trans hbx
            have hfx' := (World.frozen?_of_block (a := ⟨N + 1, 0, none⟩) hbo).trans hfx
            rw [← take_snoc HXS.out] at hsn
            have HSN := Lib.hid hsn
            have htt := tot_take HXS.out
            rw [ht, HM.out] at htt
            have HTT := Lib.hid htt
            have htm : t + m ≤ 30 * (k + 1) := by rw [ht] at htot; omega
            have hx1 : t + m ≤ 270 := by omega
            have hsh' : ∀ ys ∈ l0.take (k + 1), ys.length ≤ 30 := fun ys hy => by
              rw [take_snoc HXS.out] at hy
              rcases List.mem_append.1 hy with hy | hy
              · exact HSH.out ys hy
              · simp at hy; subst hy; rw [HM.out]; omega
            have HSH' := Lib.hid hsh'
            clear hsn hbo hbx hfx hr' hg hnil hat hR hLs hO hqp hqx hql hRW htt hsh'
            go_wp2_with fail
            intro Q2 hQ2
            rw [if_pos (show Region.wanted _ _ = true from rfl)]
            go_wp2_with fail
            go_roundw
            case rel => exact ⟨k + 1, _, by rw [HTT.out]; go_num, by go_num, by omega, by rw [HTT.out]; omega, HSH'.out, HSN.out⟩
            case measure => simp [intOf]; omega
      · obtain rfl : n0 = k := by omega
        have hLt : l0.take n0 = l0 := List.take_of_length_le (by rw [HN.out]; exact Nat.le_refl _)
        rw [hLt] at HL HSH htot ⊢
        obtain ⟨tot, htt⟩ : ∃ t, totL l0 = t := ⟨_, rfl⟩
        rw [htt] at htot ⊢
        obtain ⟨g, sc, rfl⟩ := HL.out.frm
        rw [HN.out] at HL
        have hc3 := cell_of_row wr _ 0 _ _ _ HL.out.b3
        have hf3 := frozen_of_row wr _ 0 _ _ HL.out.b3
        simp at hc3
        obtain ⟨X, hX⟩ : ∃ X, wr.heap.size = X := ⟨_, rfl⟩
        have hN1 := lt_of_get HL.out.box
        have hlN := HL.out.lt
        have HTT := Lib.hid htt
        have HXX := Lib.hid hX
        clear hLt htt
        go_upto_region 17 with fail
        obtain ⟨W3, hW3⟩ : ∃ W3, ((wr.setCell ⟨w.heap.size, 0, none⟩ (.int .i64 most)).alloc (.cells #[.int .i64 0] 3)) = W3 := ⟨_, rfl⟩
        have hz3 : W3.heap.size = X + 1 := by rw [← hW3, World.size_alloc, setCell_size, hX]
        have hb3 : Below w.heap.size w W3 := by rw [← hW3]; exact (HL.out.bel.setCell (Nat.le_refl _) _).alloc (by rw [setCell_size]; omega) _
        have hHIN := HIN.out
        have HMG := Lib.hid (merge_any 9 p0 n0 c0 u0 l0 W3 ((HSW.out W3 hb3).1.mono (by omega)) ((HSW.out W3 hb3).2.mono (Nat.le_refl _) (by omega)) HN.out (by omega) (fun xs hx => by have := HSH.out xs hx; omega))
        have HW3 := Lib.hid hW3
        rw [hW3]
        rw [hz3] at HMG
        clear hc3 hf3 hW3 hX hHIN
        go_wp2_with (go_at_call 27; refine HMG.out.mono ?_; rintro e W6 ⟨Bk, ka, kc, vs', rfl, g1, g2, g3, g4, g5, g6, g7⟩)
        rename_i K hKQ
        refine (wpIn_wide (n := 3)).1 ?_
        refine wpIn_actG ?_
        intro A hA
        have hgX : g < X := by rw [← HXX.out]; exact HL.out.cp.lt g rfl
        have hkb : Bk < W6.heap.size := cell_lt g2
        have hz6 := g5.size
        have hok : LwO N X Bk W6.heap.size W6.heap.size w := ⟨hlN, by rw [← HXX.out]; exact hN1, by omega, hkb, Nat.le_refl _, by omega⟩
        have hM0 := LwM.start HL.out HN.out HTT.out HXX.out g1 g2 g3 g4 (by rw [HW3.out]; exact g5) (fun ad e => by have := g7 ad e; omega)
        obtain ⟨I, hI⟩ : ∃ I : List (List (Int × Int)) × Nat → World → Prop, I = fun c W => LwM 9 N X Bk W6.heap.size most tot n0 ka kc vs' l0 (.slice (some ⟨g, 0, none⟩) n0 sc) w c W ∧ c.2 < most := ⟨_, rfl⟩
        obtain ⟨JX, hJX⟩ : ∃ JX : Code → World → Prop, JX = fun c W => c = .exit 2 ∧ ∃ ls, LwM 9 N X Bk W6.heap.size most tot n0 ka kc vs' l0 (.slice (some ⟨g, 0, none⟩) n0 sc) w (ls, most) W ∧ most ≤ tot := ⟨_, rfl⟩
        have hseq := merge1_any (Jx := JX) (c0 := ((l0, 0) : List (List (Int × Int)) × Nat)) (w0 := W6) ordP (lwC (most := most) (tot := tot) (kc := kc) (vs0 := vs') (ls0 := l0) (ka := ka) (n0 := n0) (sc := sc) Prod.fst hok hgX) rfl (by rw [HN.out]; omega) (fun xs hx => by have := HSH.out xs hx; omega)
        rw [← hI] at hseq
        have hIk : ∀ c W W', I c W → Below W6.heap.size W W' → I c W' := fun c W W' h hb => by
          rw [hI] at h ⊢
          exact ⟨h.1.below hok hb, h.2⟩
        have hIz : ∀ c W, I c W → W6.heap.size ≤ W.heap.size := fun c W h => by
          rw [hI] at h
          exact h.1.hiV
        have fin : ∀ ls i W, LwM 9 N X Bk W6.heap.size most tot n0 ka kc vs' l0 (.slice (some ⟨g, 0, none⟩) n0 sc) w (ls, i) W → i = min most tot → W.heap[W6.heap.size]? = some (.deferred (some [])) → K { A with defers := { target := .collected W6.heap.size, args := #[] } :: A.defers } W := fun ls i W hM hi hD => by
          refine hKQ _ _ ?_
          rw [hA]
          have c9 := cell_of_row W _ 0 _ _ _ hM.b9
          have c3 := cell_of_row W _ 0 _ _ _ hM.b3
          have c4 := cell_of_row W _ 0 _ _ _ hM.b4
          have f4 := frozen_of_row W _ 0 _ _ hM.b4
          simp at c9 c3 c4
          have hmin : min (most : Int) (tot : Int) = (i : Int) := by omega
          have hM' := Lib.hid hM
          have HD := Lib.hid hD
          have HOK := Lib.hid hok
          clear hM hD hi hseq hI hJX hM0 hIk hIz hok
          go_wp2_with fail
          have hrB : w.heap.size + 1 ≠ W6.heap.size := by have h1 := HOK.out.a; have h2 := HOK.out.b; have h3 := HOK.out.c; omega
          have hD' : (W.setCell ⟨w.heap.size + 1, 0, none⟩ (.bool true)).heap[W6.heap.size]? = some (.deferred (some [])) := (Below.heap_setCell W ⟨w.heap.size + 1, 0, none⟩ (.bool true) W6.heap.size (fun e => hrB e.symm)).trans HD.out
          have hrow := heap_setCell_same W (w.heap.size + 1) 0 _ _ (.bool true) hM'.out.b4
          have hrow2 : ((W.setCell ⟨w.heap.size + 1, 0, none⟩ (.bool true)).putObj W6.heap.size (.deferred none)).heap[w.heap.size + 1]? = some (.cells #[.bool true] 4 (0, 0)) := (World.putObj_heap_other hrB).trans (by simpa using hrow)
          have hc := cell_of_row _ (w.heap.size + 1) 0 _ _ _ hrow2
          simp at hc
          have hbe : Below w.heap.size w ((W.setCell ⟨w.heap.size + 1, 0, none⟩ (.bool true)).putObj W6.heap.size (.deferred none)) := by
            have hs : Below w.heap.size w (W.setCell ⟨w.heap.size + 1, 0, none⟩ (.bool true)) := hM'.out.bel.setCell (by simp) _
            have h1 := HOK.out.a
            have h2 := HOK.out.b
            have h3 := HOK.out.c
            exact hs.trans (putObj_below _ (by omega) hs.size)
          have HBE2 := Lib.hid hbe
          clear hbe hrow hrow2
          refine ⟨by simp, .inl ⟨_, _, rfl, run_takeDeferred hD', ?_⟩⟩
          refine ⟨.bool true, ?_, rfl, HBE2.out⟩
          rw [results_one rfl]
          simp [asAddr, Result.andThen]
          go_simp
        have FIN := Lib.hid fin
        have HIK := Lib.hid hIk
        have HIZ := Lib.hid hIz
        have HOK := Lib.hid hok
        have HSEQ := Lib.hid hseq
        have HMS := Lib.hid hM0
        have HIE := Lib.hid hI
        have HJE := Lib.hid hJX
        obtain ⟨B, hB⟩ : ∃ B, W6.heap.size = B := ⟨_, rfl⟩
        clear fin hIk hIz hok hseq hM0 hI hJX g1 g2 g3 g4 g5 g6 g7 hKQ
        refine rangeG rfl (by omega) (gf := 56) (lb := #[.pointer (some ⟨X + 1, 0, none⟩), .pointer (some ⟨Bk, 0, none⟩)]) (by rw [hA]; rfl) trivial (enters_of Try.func56 (by kernel_rfl) rfl) (encs := fun (x : Int × Int) => #[valP x]) (fun _ => rfl)
          (JM W6.heap.size [g, X] I) (JmM Prod.fst W6.heap.size [g, X] (fun c : List (List (Int × Int)) × Nat => c.1) I)
          (fun s x a1' W => ∃ bx, JbM Prod.fst W6.heap.size [g, X] (fun c : List (List (Int × Int)) × Nat => c.1) I s x bx W ∧ a1' = { tmps := (A.tmps.setIfInBounds 45 (valP x)).setIfInBounds 10 (.pointer (some ⟨bx, 0, none⟩)), defers := [] })
          JX (fun s s' => (s'.1.1 = nextL Prod.fst s.1.1) ∧ s'.2 = s.2) (fun s _ => bestF Prod.fst 0 none s.1.1 = none) ((l0, 0), W6)
          ?nJ ?nB ?nX (fun _ _ _ _ _ h => h) ?start HSEQ.out ?assign ?body ?done ?stop
        case nJ => exact fun s W o k hk h => h.put o hk (fun hi => HIK.out _ _ _ hi (putObj_below o (by omega) (HIZ.out _ _ hi)))
        case nB =>
          rintro s x a1' W o k hk ⟨bx, h, he⟩
          exact ⟨bx, ⟨h.jm.put o hk (fun hi => HIK.out _ _ _ hi (putObj_below o (by omega) (HIZ.out _ _ hi))), h.best, (World.putObj_heap_other (by have := h.ge; omega)).trans h.box, h.ge⟩, he⟩
        case nX =>
          intro c W o k hk h
          rw [HJE.out] at h ⊢
          obtain ⟨h1, ls, h2, h3⟩ := h
          exact ⟨h1, ls, h2.below HOK.out (putObj_below o (by omega) h2.hiV), h3⟩
        case start =>
          intro r
          have hb2 : Below W6.heap.size W6 ((W6.alloc (.deferred (some []))).alloc (.loop r)) := ((Below.refl _ _).alloc (Nat.le_refl _) _).alloc (by simp) _
          refine ⟨HIK.out _ _ _ ?_ hb2, (But.of_below hb2)⟩
          rw [HIE.out]
          exact ⟨HMS.out, by show 0 < most; omega⟩
        case assign =>
          rintro lx s x W K' hj hzW hK
          rw [hA] at hK ⊢
          obtain ⟨x, y⟩ := x
          unfold valP at hK ⊢
          gi_wp2
          refine hK _ _ ⟨W.heap.size, ⟨⟨HIK.out _ _ _ hj.1.1 ((Below.refl _ _).alloc (by omega) _), hj.1.2.alloc _⟩, hj.2, World.alloc_heap_new W _, hzW⟩, rfl⟩ ⟨heap_alloc_old' W _ _ (by omega), heap_alloc_old' W _ _ (by omega)⟩
        case body =>
          rintro lx s x a1' V ⟨bx, hJ, rfl⟩ hzV
          obtain ⟨⟨hI1, hB1⟩, ⟨j, hbest⟩, hbx, hge⟩ := hJ
          rw [HIE.out] at hI1
          obtain ⟨hM, hlt'⟩ := hI1
          obtain ⟨⟨ls, i⟩, wy⟩ := s
          obtain ⟨x, y⟩ := x
          simp only at hM hlt' hbest hB1 hbx
          have hll := hM.len
          simp only at hll
          have hbest' := hbest
          rw [← List.take_of_length_le (Nat.le_refl ls.length)] at hbest'
          obtain ⟨j', r, e, hjk, hls⟩ := best_head Prod.fst hbest'
          obtain rfl : j = j' := by omega
          have cb := cell_of_row V _ 0 _ _ _ hM.box
          have c9 := cell_of_row V _ 0 _ _ _ hM.b9
          have c3 := cell_of_row V _ 0 _ _ _ hM.b3
          have f9 := frozen_of_row V _ 0 _ _ hM.b9
          have x0 := cell_of_row V _ 0 _ _ _ hbx
          have x1 := cell_of_row V _ 1 _ _ _ hbx
          simp at cb c9 c3 x0 x1
          have HM := Lib.hid hM
          have HB1 := Lib.hid hB1
          have HBE := Lib.hid hbest
          have HLS := Lib.hid hls
          have HLL := Lib.hid hll
          have HGE := Lib.hid hge
          have HZV := Lib.hid hzV
          rw [hll] at hjk
          clear hM hB1 hbest hbest' hls hll hbx hge hzV e HSEQ HMS
          rw [hA]
          unfold valP
          gi_wp2_with fail
          gi_loopw [11, 48] (fun a k wr => ∃ (q m : Nat), a = .int .i64 (atN (bestF Prod.fst 0 none (ls.take m))) ∧ k = .int .i64 m ∧ m ≤ n0 ∧ wr = V.drewN q) (fun _ k _ => n0 - (intOf k).toNat)
          case atStart => exact ⟨0, 0, rfl, rfl, Nat.zero_le _, rfl⟩
          case round =>
            obtain ⟨q, m, rfl, rfl, hm, rfl⟩ := hrel
            by_cases hmn : m < n0
            · have g1 : (0 : Int) ≤ m := by omega
              have g2 : (m : Int) < n0 := by omega
              obtain ⟨xs, hxs⟩ : ∃ xs, ls[m]? = some xs := ⟨_, List.getElem?_eq_getElem (by rw [HLL.out]; exact hmn)⟩
              have HST := Lib.hid (best_step (key := Prod.fst) hxs)
              have cbq : (V.drewN q).cell? ⟨N + 1, 0, none⟩ = some (.slice (some ⟨g, 0, none⟩) n0 sc) := cb
              cases xs with
              | nil =>
                obtain ⟨va, vc, e1, _, _, _, _⟩ := HM.out.cellAt hxs
                simp only [List.length_nil] at e1
                have e1q : (V.drewN q).cell? ⟨g, m, none⟩ = some (.slice va 0 vc) := e1
                gi_wp2_with fail
                refine quiet_round (by kernel_rfl) (by kernel_rfl) (by kernel_rfl) (fun ⟨_, _, hq⟩ => hq) ?_
                repeat (go_big_quiet_step (fail))
                refine wpQuiet_nil ?_
                intro _ hw'
                obtain ⟨nq, hw''⟩ := hw'
                rw [drewN_add] at hw''
                subst hw''
                gi_wp2_with fail
                go_roundw
                case rel => exact ⟨q + nq, m + 1, by rw [HST.out]; cases bestF Prod.fst 0 none (ls.take m) <;> rfl, by go_num, by omega, rfl⟩
                case measure => simp [intOf]; omega
              | cons z r' =>
                obtain ⟨b, off, cap, e1, _, e2, e3, _, _⟩ := HM.out.headAt hxs
                obtain ⟨z, zy⟩ := z
                obtain ⟨rl, hrl⟩ : ∃ rl, r'.length = rl := ⟨_, rfl⟩
                rw [hrl] at e1
                simp only at e2 e3
                have e1q : (V.drewN q).cell? ⟨g, m, none⟩ = some (.slice (some ⟨b, off, none⟩) (rl + 1) (cap + 1)) := e1
                have e2q : (V.drewN q).cell? ⟨b, off, none⟩ = some (.int .i64 z) := e2
                have g3 : decide ((0 : Int) < (rl : Int) + 1) = true := decide_eq_true (by omega)
                have g4 : (0 : Int) < (rl : Int) + 1 := by omega
                cases hcb : bestF Prod.fst 0 none (ls.take m) with
                | none =>
                  rw [hcb] at HST
                  clear hcb hrl hxs
                  show Code.wpIn _ _ _ _ _ _ _
                  simp only [atN]
                  gi_wp2_with fail
                  refine quiet_round (by kernel_rfl) (by kernel_rfl) (by kernel_rfl) (fun ⟨_, _, hq⟩ => hq) ?_
                  repeat (go_big_quiet_step (fail))
                  refine wpQuiet_nil ?_
                  intro _ hw'
                  obtain ⟨nq, hw''⟩ := hw'
                  rw [drewN_add] at hw''
                  subst hw''
                  gi_wp2_with fail
                  go_roundw
                  case rel => exact ⟨q + nq, m + 1, by rw [HST.out]; rfl, by go_num, by omega, rfl⟩
                  case measure => simp [intOf]; omega
                | some d =>
                  obtain ⟨⟨d, dy⟩, dj⟩ := d
                  obtain ⟨jd, rd, rfl, hjd, hld⟩ := best_head Prod.fst hcb
                  obtain ⟨b', off', cap', f1, _, f2, f3, _, _⟩ := HM.out.headAt hld
                  obtain ⟨rl', hrl'⟩ : ∃ rl, rd.length = rl := ⟨_, rfl⟩
                  rw [hrl'] at f1
                  simp only at f2 f3
                  have f1q : (V.drewN q).cell? ⟨g, jd, none⟩ = some (.slice (some ⟨b', off', none⟩) (rl' + 1) (cap' + 1)) := f1
                  have f2q : (V.drewN q).cell? ⟨b', off', none⟩ = some (.int .i64 d) := f2
                  have g5 : decide ((jd : Int) < 0) = false := decide_eq_false (by omega)
                  have g6 : (0 : Int) ≤ jd := by omega
                  have g7 : (jd : Int) < n0 := by omega
                  have g8 : (0 : Int) < (rl' : Int) + 1 := by omega
                  rw [hcb] at HST
                  clear hcb hrl hrl' hxs hld
                  simp only [atN]
                  by_cases hzd : z < d
                  · have g9 : decide (z < d) = true := decide_eq_true hzd
                    have HST2 : Hid (stepB Prod.fst m (some ((d, dy), (jd : Int))) ((z, zy) :: r') = some ((z, zy), (m : Int))) := Lib.hid (if_pos hzd)
                    gi_wp2_with fail
                    refine quiet_round (by kernel_rfl) (by kernel_rfl) (by kernel_rfl) (fun ⟨_, _, hq⟩ => hq) ?_
                    repeat (go_big_quiet_step (fail))
                    refine wpQuiet_nil ?_
                    intro _ hw'
                    obtain ⟨nq, hw''⟩ := hw'
                    rw [drewN_add] at hw''
                    subst hw''
                    gi_wp2_with fail
                    go_roundw
                    case rel => exact ⟨q + nq, m + 1, by rw [HST.out, HST2.out], by go_num, by omega, rfl⟩
                    case measure => simp [intOf]; omega
                  · have g9 : decide (z < d) = false := decide_eq_false hzd
                    have HST2 : Hid (stepB Prod.fst m (some ((d, dy), (jd : Int))) ((z, zy) :: r') = some ((d, dy), (jd : Int))) := Lib.hid (if_neg hzd)
                    gi_wp2_with fail
                    refine quiet_round (by kernel_rfl) (by kernel_rfl) (by kernel_rfl) (fun ⟨_, _, hq⟩ => hq) ?_
                    repeat (go_big_quiet_step (fail))
                    refine wpQuiet_nil ?_
                    intro _ hw'
                    obtain ⟨nq, hw''⟩ := hw'
                    rw [drewN_add] at hw''
                    subst hw''
                    gi_wp2_with fail
                    go_roundw
                    case rel => exact ⟨q + nq, m + 1, by rw [HST.out, HST2.out], by go_num, by omega, rfl⟩
                    case measure => simp [intOf]; omega
            · obtain rfl : n0 = m := by omega
              rw [List.take_of_length_le (by rw [HLL.out]; exact Nat.le_refl _), HBE.out]
              simp only [atN]
              obtain ⟨b, off, cap, e1, e0, e2, e3, e4, e5⟩ := HM.out.headAt HLS.out
              obtain ⟨rl, hrl⟩ : ∃ rl, r.length = rl := ⟨_, rfl⟩
              rw [hrl] at e1 e4 e5
              simp only at e2 e3
              have cbq : (V.drewN q).cell? ⟨N + 1, 0, none⟩ = some (.slice (some ⟨g, 0, none⟩) n0 sc) := cb
              have e1q : (V.drewN q).cell? ⟨g, j, none⟩ = some (.slice (some ⟨b, off, none⟩) (rl + 1) (cap + 1)) := e1
              have e2q : (V.drewN q).cell? ⟨b, off, none⟩ = some (.int .i64 x) := e2
              have e3q : (V.drewN q).cell? ⟨b, off + 1, none⟩ = some (.int .i64 y) := e3
              have x0q : (V.drewN q).cell? ⟨bx, 0, none⟩ = some (.int .i64 x) := x0
              have x1q : (V.drewN q).cell? ⟨bx, 1, none⟩ = some (.int .i64 y) := x1
              have g5 : decide ((j : Int) < 0) = false := decide_eq_false (by omega)
              have g6 : (0 : Int) ≤ j := by omega
              have g7 : (j : Int) < n0 := by omega
              have g8 : (0 : Int) < (rl : Int) + 1 := by omega
              have g10 : (1 : Int) ≤ (rl : Int) + 1 := by omega
              have g11 : (rl : Int) + 1 ≤ (cap : Int) + 1 := by omega
              have E5 := Lib.hid e5
              clear e5
              gi_wp2_with fail
              refine quiet_round (by kernel_rfl) (by kernel_rfl) (by kernel_rfl) (fun ⟨_, _, hq⟩ => hq) ?_
              repeat (go_big_quiet_step (fail))
              refine wpQuiet_nil ?_
              intro _ hw'
              obtain ⟨nq, hw''⟩ := hw'
              rw [drewN_add] at hw''
              subst hw''
              gi_wp2_with fail
              have HMd := fun n => HM.out.below HOK.out (below_drewN W6.heap.size V n)
              have HEQ : Hid (((i + 1 : Nat) : Int) = (i : Int) + 1) := Lib.hid (by simp)
              have HNX : Hid (nextL Prod.fst ls = ls.set j r) := Lib.hid (next_eq Prod.fst HBE.out HLS.out)
              have HNUM : Hid (i + 1 + totL (ls.set j r) = tot) := Lib.hid (by have h1 := HM.out.num; have h2 := tot_set ls j (x, y) r HLS.out; simp only at h1; omega)
              have HMD := Lib.hid HMd
              have hgc := HM.out.cp.lt g rfl
              have ho3 := HOK.out.c
              clear HMd e0 e4 e2 e3 e2q e3q x0q x1q x0 x1
              refine region_seq_round (l := [_, _, _, _, _, _, _]) (t := [_, _]) (by kernel_rfl) (by decide +kernel) (by decide +kernel) (by kernel_rfl) (fun ⟨_, _, hq⟩ => hq) (fun v => { tmps := #[Value.slice p0 n0 c0, Value.int IntKind.i64 a1, undef, Value.pointer (some ⟨w.heap.size, 0, none⟩), Value.pointer (some ⟨w.heap.size + 1, 0, none⟩), Value.pointer (some ⟨N + 1, 0, none⟩), Value.int IntKind.i64 (tot : Int), undef, u8, Value.pointer (some ⟨X, 0, none⟩), Value.pointer (some ⟨bx, 0, none⟩), Value.int IntKind.i64 (j : Int), u12, u13, Value.bool true, Value.bool false, Value.slice p0 n0 c0, Value.int IntKind.i64 (n0 : Int), Value.bool false, Value.slice (some ⟨N, 0, none⟩) 0 0, Value.slice p0 n0 c0, Value.int IntKind.i64 (n0 : Int), Value.int IntKind.i64 (n0 : Int), Value.bool false, u24, u25, u26, u27, u28, u29, u30, u31, u32, u33, u34, u35, u36, u37, u38, u39, Value.int IntKind.i64 a1, Value.int IntKind.i64 (bits BinOp.and IntKind.i64 a1 255), Value.int IntKind.i64 (most : Int), Value.slice p0 n0 c0, Value.func (Fn.func 56) #[] #[Value.pointer (some ⟨X + 1, 0, none⟩), Value.pointer (some ⟨Bk, 0, none⟩)], Value.agg #[Value.int IntKind.i64 x, Value.int IntKind.i64 y], Value.slice (some ⟨g, 0, none⟩) n0 sc, Value.int IntKind.i64 (n0 : Int), Value.int IntKind.i64 (n0 : Int), Value.bool false, u50, u51, u52, u53, u54, u55, u56, u57, u58, u59, u60, u61, u62, u63, u64, u65, u66, u67, u68, u69, u70, u71, u72, u73, u74, u75, Value.int IntKind.i64 (j : Int), Value.bool false, Value.bool false, Value.slice (some ⟨g, 0, none⟩) n0 sc, Value.int IntKind.i64 (j : Int), Value.pointer (some ⟨g, j, none⟩), Value.slice (some ⟨b, off, none⟩) (rl + 1) (cap + 1), Value.pointer (some ⟨b, off, none⟩), Value.agg #[Value.int IntKind.i64 x, Value.int IntKind.i64 y], Value.agg #[Value.int IntKind.i64 x, Value.int IntKind.i64 y], Value.bool false, Value.bool false, v 0, v 1, v 2, v 3, v 4, v 5, v 6, v 7, undef, undef, undef, undef, undef, undef, undef, undef, undef, undef], defers := [] }) (fun W => ∃ n, W = V.drewN n) (fun i' u W => match i' with
                | 0 => u = .slice (some ⟨g, 0, none⟩) n0 sc
                | 1 => u = .int .i64 (j : Nat)
                | 2 => u = .slice (some ⟨g, 0, none⟩) n0 sc
                | 3 => u = .int .i64 (j : Nat)
                | 4 => u = .pointer (some ⟨g, j, none⟩)
                | 5 => u = .slice (some ⟨b, off, none⟩) (rl + 1) (cap + 1)
                | 6 => (cap = 0 ∧ u = .slice (some ⟨b, off, none⟩) rl 0) ∨ (cap ≠ 0 ∧ u = .slice (some ⟨b, off + 2, none⟩) rl cap)
                | _ => True) (fun A B => SameW A B) ?hC ?hV (fun _ => undef) ?h0 ?hop ?hend
              case hC => exact fun A B h e => by rw [← e.eq]; exact h
              case h0 => exact ⟨q + nq + 1, by rw [show (V.drewN (q + nq)).drew = (V.drewN (q + nq)).drewN 1 from rfl, drewN_add]⟩
              case hV => exact fun i' u A B h e => by obtain ⟨rfl⟩ := e; exact h
              case hop =>
                simp only [AllDo]
                refine ⟨?o0, ?o1, ?o2, ?o3, ?o4, ?o5, ?o6, trivial⟩
                all_goals rintro v W ⟨n, rfl⟩ hd Q hQ
                all_goals simp [Region.binds] at hd
                all_goals rw [if_pos (show Region.wanted _ _ = true from rfl)]
                case o0 =>
                  have cbq : (V.drewN n).cell? ⟨N + 1, 0, none⟩ = some (.slice (some ⟨g, 0, none⟩) n0 sc) := cb
                  go_wp2
                  exact ⟨_, rfl, ⟨rfl⟩, rfl⟩
                case o1 =>
                  go_wp2
                  exact ⟨_, rfl, ⟨rfl⟩, rfl⟩
                case o2 =>
                  have cbq : (V.drewN n).cell? ⟨N + 1, 0, none⟩ = some (.slice (some ⟨g, 0, none⟩) n0 sc) := cb
                  go_wp2
                  exact ⟨_, rfl, ⟨rfl⟩, rfl⟩
                case o3 =>
                  go_wp2
                  exact ⟨_, rfl, ⟨rfl⟩, rfl⟩
                case o4 =>
                  obtain ⟨h1, h2⟩ := hd
                  go_wp2
                  refine ⟨.pointer (some ⟨g, j, none⟩), ?_, ⟨rfl⟩, rfl⟩
                  simp [updV, h1, h2]
                case o5 =>
                  have e1q : (V.drewN n).cell? ⟨g, j, none⟩ = some (.slice (some ⟨b, off, none⟩) (rl + 1) (cap + 1)) := e1
                  go_wp2
                  refine ⟨_, ?_, ⟨rfl⟩, rfl⟩
                  simp [updV, hd]
                case o6 =>
                  go_wp2
                  all_goals refine ⟨?_, ⟨rfl⟩⟩
                  all_goals first
                    | (have hcap : cap = 0 := by assumption
                       simp [updV, hd, hcap]
                       done)
                    | (simp [updV, hd]
                       done)
              case hend =>
                intro v W hc hv
                obtain ⟨n, rfl⟩ := hc
                have e0 : v 0 = .slice (some ⟨g, 0, none⟩) n0 sc := hv 0 (by decide)
                have e1' : v 1 = .int .i64 (j : Nat) := hv 1 (by decide)
                have e6 : (cap = 0 ∧ v 6 = .slice (some ⟨b, off, none⟩) rl 0) ∨ (cap ≠ 0 ∧ v 6 = .slice (some ⟨b, off + 2, none⟩) rl cap) := hv 6 (by decide)
                obtain ⟨o', c', e6', hP⟩ : ∃ o' c', v 6 = .slice (some ⟨b, o', none⟩) rl c' ∧ (PrL (N + 2) X V (.slice (some ⟨b, o', none⟩) rl c') r ∧ OffP [g] (.slice (some ⟨b, o', none⟩) rl c')) := by
                  rcases e6 with ⟨h0, h1⟩ | ⟨h0, h1⟩
                  · exact ⟨_, _, h1, E5.out _ (.inl ⟨h0, rfl⟩)⟩
                  · exact ⟨_, _, h1, E5.out _ (.inr ⟨h0, rfl⟩)⟩
                have hRD := (HMD.out n).round HOK.out HLS.out (hP.1.below (below_drewN X V n) (Nat.le_refl _)) hP.2
                rw [HEQ.out] at hRD
                have HRD := Lib.hid hRD
                have e1q : (V.drewN n).cell? ⟨g, j, none⟩ = some (.slice (some ⟨b, off, none⟩) (rl + 1) (cap + 1)) := e1
                have f1q : (V.drewN n).frozen? ⟨g, j, none⟩ = false := ((HMD.out n).headAt HLS.out).elim (fun _ h => h.elim (fun _ h => h.elim (fun _ h => h.2.1)))
                have k9 : ∀ u, ((V.drewN n).setCell ⟨g, j, none⟩ u).cell? ⟨X, 0, none⟩ = some (.int .i64 (i : Int)) := fun u => (World.cell?_of_block (a := ⟨X, 0, none⟩) (Below.heap_setCell (V.drewN n) ⟨g, j, none⟩ u X (show X ≠ g by omega))).trans c9
                have k3 : ∀ u, ((V.drewN n).setCell ⟨g, j, none⟩ u).cell? ⟨w.heap.size, 0, none⟩ = some (.int .i64 (most : Int)) := fun u => (World.cell?_of_block (a := ⟨w.heap.size, 0, none⟩) (Below.heap_setCell (V.drewN n) ⟨g, j, none⟩ u w.heap.size (show w.heap.size ≠ g from fun e => by have h1 := HOK.out.a; obtain ⟨_, h2, _⟩ := HM.out.cp.row; have := (h2.lt g rfl).1; omega))).trans c3
                have l9 : ∀ u, ((V.drewN n).setCell ⟨g, j, none⟩ u).frozen? ⟨X, 0, none⟩ = false := fun u => (World.frozen?_of_block (a := ⟨X, 0, none⟩) (Below.heap_setCell (V.drewN n) ⟨g, j, none⟩ u X (show X ≠ g by omega))).trans f9
                clear hv hRD hP e6 HMD
                simp only [SeqDoes]
                intro Q1 hQ1
                rw [if_pos (show Region.wanted _ _ = true from rfl)]
                go_wp2_with fail
                intro Q2 hQ2
                rw [if_pos (show Region.wanted _ _ = true from rfl)]
                go_wp2_with fail
                have hbn : But [g, X] V (V.drewN n) := (But.of_below (own := []) (below_drewN V.heap.size V n)).more (fun k hk => by cases hk)
                have hsr : ∀ U, But [g, X] (V.drewN n) U → SameRec W6.heap.size V U := fun U hU => by
                  have hz := HZV.out
                  exact ⟨(hbn.trans' hU).block _ (by omega) (by simp; omega), (hbn.trans' hU).block _ (by omega) (by simp; omega)⟩
                have HSR := Lib.hid hsr
                have HBN := Lib.hid hbn
                clear hbn hsr
                have hwX : w.heap.size ≠ X := by have h1 := HOK.out.a; have h2 := HOK.out.b; omega
                by_cases him : i + 1 = most
                · have k1 : (((i : Int) + 1) == (most : Int)) = true := by rw [← him]; simp
                  have k2 : (i : Int) + 1 = (most : Int) := by omega
                  gi_wp2_with fail
                  have hr := HRD.out
                  rw [k2] at hr
                  have h1 := hr.1
                  have hnum := HNUM.out
                  refine ⟨HSR.out _ hr.2, ?_⟩
                  rw [HJE.out]
                  refine ⟨rfl, ls.set j r, ?_, by omega⟩
                  simp only [him] at h1
                  exact h1
                · have k1 : (((i : Int) + 1) == (most : Int)) = false := beq_eq_false_iff_ne.2 (by omega)
                  gi_wp2_with fail
                  have hr := HRD.out
                  refine ⟨HSR.out _ hr.2, ((ls.set j r, i + 1), wy), ⟨HNX.out.symm, rfl⟩, ?_, ?_⟩
                  · rw [HIE.out]
                    exact ⟨hr.1, by show i + 1 < most; omega⟩
                  · exact HB1.out.trans' ((HBN.out.trans' hr.2).more (fun k hk => .inl (List.mem_cons_of_mem _ (List.mem_cons_of_mem _ hk))))
        case done =>
          rintro s W ⟨hj, hbw⟩ hE hD
          rw [HIE.out] at hj
          have h0 := best_tot Prod.fst hE
          have hn := hj.1.num
          rw [h0] at hn
          have h2 := hj.2
          exact FIN.out s.1.1 s.1.2 W hj.1 (by omega) hD
        case stop =>
          intro c W hx hD
          rw [HJE.out] at hx
          obtain ⟨rfl, ls, h1, h2⟩ := hx
          refine wpIn_exit ?_
          (try simp only [Exit.inBlock, if_pos])
          (try simp only [Exit.then])
          exact FIN.out ls most W h1 (by omega) hD


set_option maxRecDepth 100000 in
theorem lifted (os : Os) (started : os.Started) (H : Type) (enc : TypeId × Value → H) :
    ReturnsInHanded {} Try.checked os 6 .any (Rows.heapMergesSpec.pre6 enc Try.prog Try.f6 Rows.heapMergesRow.domain false) (Rows.heapMergesSpec.post enc Try.prog Try.f6 false true false false) := by
  refine returnsInHanded_of_change (C := Try.checked) own started (by kernel_rfl) Try.func6
    (ChangeSpec.witness6 (enc := enc) (C := Try.checked) false ⟨#[], #[.slice none 0 0, .int .i64 0], []⟩ 8 (by kernel_rfl) (by kernel_rfl) (by kernel_rfl) (by kernel_rfl)) ?_
  intro W base args ds gs before hval0 hW hcnd _
  have hval : ∀ (j : Nat) t v, Try.f6.params[j]? = some t → args[j]? = some v → Value.okWide Try.prog W .any base t v := hval0
  have hW' := hW
  obtain ⟨p, q, hA0, hV, rfl, hfz, hnd⟩ := hW
  have hA : DataW.TrodAll enc Try.prog W 0 (fun _ => true) true Try.f6.params.toList args.toList ds p := hA0
  rw [Try.params6] at hA hval
  have hAk := hA
  obtain ⟨v0, vs0, d0, ds0, p0', q0, hargs, rfl, rfl, h0, r0⟩ := trodAll_cons hA
  obtain ⟨v1, vs1, d1, ds1, p1', q1, rfl, rfl, rfl, h1, r1⟩ := trodAll_cons r0
  obtain ⟨rfl, rfl, rfl⟩ := trodAll_nil r1
  obtain rfl : args = #[v0, v1] := by cases args; simp_all
  obtain ⟨rfl, rfl⟩ := trodVars_none hV
  simp only [List.append_nil] at hW' hAk
  have hlt := fun x hx => hW'.lt x hx
  clear hA0 hval0
  obtain ⟨p0, n0, c0, u0, l0, rfl, S0, b0⟩ := open_lists (okWide_slice Try.underlying57 (hval 0 57 v0 rfl rfl)) h0
  obtain ⟨a1, rfl, rfl, rfl, w1⟩ := open_int Try.underlying3 (hval 1 3 v1 rfl rfl) h1
  refine (walk W p0 n0 c0 u0 l0 S0 b0 a1 w1).mono fun e W' ⟨he, hg⟩ => ?_
  subst he
  have hargs := trodAll_below hg _ _ _ _ (by intro t ht; simp only [List.mem_cons, List.not_mem_nil, or_false] at ht; revert t; rintro t (rfl | rfl) <;> exact ⟨by kernel_rfl, of_decide_eq_true (by kernel_rfl)⟩) hAk (fun x hx => by simpa using hlt x hx)
  exact ⟨_, rfl, _, _, _, [], _, [], hW', (trodAll_cons_mk (shut_bool Try.underlying4 _) trodAll_mk0), hargs, rfl, hg.frame _, fun h => by cases h⟩

theorem over : Rows.heapMergesRow.holds Try.pinned (OpenSpec.ofChange Rows.heapMergesSpec) :=
  OpenClaim.holds_of_wide 6 Try.f6 rfl rfl rfl rfl rfl rfl rfl ⟨rfl, rfl, rfl, rfl, rfl⟩ rfl rfl rfl rfl rfl (by kernel_rfl) Try.func6 (by kernel_rfl)
    (of_decide_eq_true (by kernel_rfl)) (by unfold Func.isWrapper; first | (rw [if_pos (by decide +kernel)]; kernel_rfl) | (rw [if_neg (by decide +kernel)]; exact ⟨rfl, rfl⟩))
    (fun os started H enc _ => lifted os started H enc)

theorem proved : Rows.HeapMergesSaid :=
  over
end Go.Proofs.Ytpdncgjepfgnjaa.heapMerges
