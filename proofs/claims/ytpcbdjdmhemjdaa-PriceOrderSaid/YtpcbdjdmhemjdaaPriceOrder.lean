/- For whatever row of entries and number law PriceOrder answers true: entries that are put in another order ask the same, and are the same. No condition. -/
import Derived.Test.YtpcbdjdmhemjdaaPriZ
import Derived.Test.YtpcbdjdmhemjdaaOpenEn
import Derived.Test.YtpcbdjdmhemjdaaMasks
namespace Go.Proofs.Ytpcbdjdmhemjdaa.priceOrder
open Go.ChangeShapes Go.WideShapes Go.ChangeAt Go.RowKit Go.Proofs.Ytpcbdjdmhemjdaa
set_option linter.unusedVariables false
attribute [local go_sem] Oper.semAt_some
theorem of_self {es : List Ent} (h : Tie es) : ofP es = es := by
  refine tight_ext sOrd (of_tie (fun x hx => (h.right x hx).1)) h (fun s hs => ?_)
  obtain ⟨a1, _, a3⟩ := ask_of (lt := ltS) (wi := withinB) (most := 2199023255552) sOrd es [] s
  refine Int.le_antisymm ?_ (askL_le (askL_nonneg _ _) (fun x hx hw => a1 x hx hw ?_))
  · rcases a3 with e | ⟨x, k1, k2, k3, k4⟩
    · show askL withinB (es.foldl (putE ltS withinB 2199023255552) []) s ≤ _
      rw [e]
      exact askL_nonneg _ _
    · show askL withinB (es.foldl (putE ltS withinB 2199023255552) []) s ≤ _
      rw [k4]
      exact askL_ge k1 k2
  · have := h.right x hx
    unfold rightE
    simp [this.2.1, this.2.2.2]

set_option maxRecDepth 100000 in
set_option maxHeartbeats 16000000 in
theorem walk (w : World) (p0 : Option Addr) (n0 c0 : Nat) (l0 : List Ent) (S0 : EnsP w.heap.size w (.slice p0 n0 c0) l0) (b0 : (∀ x ∈ l0, okS x.1 ∧ In64 x.2) ∧ l0.length ≤ Go.maxLen) (a1 : Int) (w1 : (Lit.int .i64 a1).wf = true) :
    Calls Try.prog 5 #[.slice p0 n0 c0, .int .i64 a1] w fun e w' => e = .returned (.bool true) ∧ Below w.heap.size w w' := by
  have hn := S0.len
  have HAL := Lib.hid (fun W => priceAlive_any W)
  have HOK : Hid (∀ x ∈ l0, okS x.1) := Lib.hid (fun x hx => (b0.1 x hx).1)
  have HN := Lib.hid hn.symm
  have HZ := Lib.hid S0
  clear S0 b0 hn w1
  by_cases h60 : 60 < n0
  · have g0 : decide ((60 : Int) < (n0 : Int)) = true := decide_eq_true (by omega)
    go_enter Try.func5, Try.ntmps5
    go_wp2_with (go_at_call 8; refine (HAL.out _).mono ?_; rintro e w2 ⟨rfl, hb2⟩; have HB2 := Lib.hid hb2; clear hb2)
    go_ret
    exact ⟨rfl, HB2.out⟩
  have g0 : decide ((60 : Int) < (n0 : Int)) = false := decide_eq_false (by omega)
  have h60' : n0 ≤ 60 := by omega
  obtain ⟨kk, hkk, hk1⟩ := and1023 a1
  clear h60
  go_enter Try.func5, Try.ntmps5
  go_wp2_with (go_at_call 8; refine (HAL.out _).mono ?_; rintro e w2 ⟨rfl, hb2⟩; have HB2 := Lib.hid hb2; clear hb2)
  go_loopw [5, 17] (fun sv i wr => ∃ (m : Nat) (out : List Ent), i = .int .i64 m ∧ m ≤ n0 ∧ RowE w2 sv out wr ∧ out.length = 2 * m ∧ (∀ x ∈ out, x ∈ l0) ∧ ∀ j x, j < m → l0[n0 - 1 - j]? = some x → x ∈ out) (fun _ i _ => n0 - (intOf i).toNat)
  case atStart => exact ⟨0, [], rfl, Nat.zero_le _, RowE.start w2, rfl, (fun _ h => nomatch h), fun j x hj => absurd hj (Nat.not_lt_zero _)⟩
  case round =>
    obtain ⟨m, out, rfl, hm, hR, hol, hsub, hrev⟩ := hrel
    by_cases hlt : m < n0
    · obtain ⟨i1, hi1⟩ : ∃ i1, (m + kk) % n0 = i1 := ⟨_, rfl⟩
      have hi1l : i1 < n0 := by rw [← hi1]; exact Nat.mod_lt _ (by omega)
      have htm : ((m : Int) + (kk : Int)).tmod (n0 : Int) = (i1 : Int) := by rw [Int.tmod_eq_emod_of_nonneg (by omega), ← hi1]; simp
      obtain ⟨i2, hi2⟩ : ∃ i2, n0 - 1 - m = i2 := ⟨_, rfl⟩
      have HI2 := Lib.hid hi2
      have hs2 : (n0 : Int) - 1 - m = (i2 : Int) := by omega
      have gi1 : (0 : Int) ≤ i1 := by omega
      have gi2 : (i1 : Int) < n0 := by omega
      have gi3 : (0 : Int) ≤ i2 := by omega
      have gi4 : (i2 : Int) < n0 := by omega
      have gn0 : ((n0 : Int) == 0) = false := by rw [beq_eq_false_iff_ne]; omega
      obtain ⟨⟨k1, u1⟩, hx1⟩ : ∃ x, l0[i1]? = some x := ⟨_, List.getElem?_eq_getElem (by rw [HN.out]; exact hi1l)⟩
      obtain ⟨⟨k2, u2⟩, hx2⟩ : ∃ x, l0[i2]? = some x := ⟨_, List.getElem?_eq_getElem (by rw [HN.out]; omega)⟩
      obtain ⟨b, off, rfl, hb, f0, f1⟩ := HZ.out.at_ hx1
      obtain ⟨_, _, e2, _, f2, f3⟩ := HZ.out.at_ hx2
      cases e2
      simp only at f0 f1 f2 f3
      have hbw : b < w2.heap.size := Nat.lt_of_lt_of_le hb HB2.out.size
      have hbr : b < wr.heap.size := Nat.lt_of_lt_of_le hbw hR.bel.size
      have hBB : Below w.heap.size w wr := HB2.out.trans (hR.bel.mono HB2.out.size)
      have d0 := (hBB.cell (p := ⟨b, off + i1 * 2, none⟩) hb).trans f0
      have d1 := (hBB.cell (p := ⟨b, off + i1 * 2 + 1, none⟩) hb).trans f1
      have d2 := (hBB.cell (p := ⟨b, off + i2 * 2, none⟩) hb).trans f2
      have d3 := (hBB.cell (p := ⟨b, off + i2 * 2 + 1, none⟩) hb).trans f3
      have D0 := Lib.hid d0
      have D1 := Lib.hid d1
      have D2 := Lib.hid d2
      have D3 := Lib.hid d3
      have HR := Lib.hid hR
      have HSUB := Lib.hid hsub
      have HREV := Lib.hid hrev
      have HX1 := Lib.hid hx1
      have HX2 := Lib.hid hx2
      clear d0 d1 d2 d3 f0 f1 f2 f3 hx1 hx2 hR hsub hrev hBB
      go_upto_region 9 with fail
      refine region_seq (l := [_, _, _, _, _, _, _, _, _, _, _, _, _, _, _, _, _, _, _, _]) (t := [_, _]) (by kernel_rfl) (by decide +kernel) (by decide +kernel) (fun v => { tmps := #[.slice (some ⟨b, off, none⟩) n0 c0, .int .i64 a1, undef, undef, .bool false, u5, .int .i64 (m : Nat), undef, undef, .bool true, .bool false, .slice (some ⟨b, off, none⟩) n0 c0, .int .i64 (n0 : Nat), .bool false, .slice (some ⟨w2.heap.size, 0, none⟩) 0 0, .slice (some ⟨b, off, none⟩) n0 c0, .int .i64 (n0 : Nat), .int .i64 (m : Nat), .bool true, .int .i64 (m : Nat), v 0, v 1, v 2, v 3, v 4, v 5, v 6, v 7, v 8, v 9, v 10, v 11, v 12, v 13, v 14, v 15, v 16, v 17, v 18, v 19, u40, u41, undef, undef, undef, undef, undef, undef, undef, undef, undef, undef, undef, undef, undef, undef, undef, undef, undef, undef, undef], defers := [] }) (fun W => Below wr.heap.size wr W) (fun i u W => match i with
        | 0 => u = u5
        | 1 => u = .slice (some ⟨b, off, none⟩) n0 c0
        | 2 => u = .int .i64 (m : Nat)
        | 3 => u = .int .i64 a1
        | 4 => u = .int .i64 (kk : Nat)
        | 5 => u = .int .i64 ((m : Int) + (kk : Int))
        | 6 => u = .slice (some ⟨b, off, none⟩) n0 c0
        | 7 => u = .int .i64 (n0 : Nat)
        | 8 => u = .int .i64 (i1 : Nat)
        | 9 => u = .pointer (some ⟨b, off + i1 * 2, none⟩)
        | 10 => u = .agg #[.int .u64 (k1 : Nat), .int .i64 u1]
        | 11 => u = .slice (some ⟨b, off, none⟩) n0 c0
        | 12 => u = .slice (some ⟨b, off, none⟩) n0 c0
        | 13 => u = .int .i64 (n0 : Nat)
        | 14 => u = .int .i64 ((n0 : Int) - 1)
        | 15 => u = .int .i64 (m : Nat)
        | 16 => u = .int .i64 (i2 : Nat)
        | 17 => u = .pointer (some ⟨b, off + i2 * 2, none⟩)
        | 18 => u = .agg #[.int .u64 (k2 : Nat), .int .i64 u2]
        | 19 => ∃ q : Nat, u = .slice (some ⟨q, 0, none⟩) 2 2 ∧ W.heap[q]? = some (.cells #[.int .u64 (k1 : Nat), .int .i64 u1, .int .u64 (k2 : Nat), .int .i64 u2] 41 (0, 0))
        | _ => True) (fun A B => Below A.heap.size A B) ?hC ?hV (fun i => match i with | 0 => u20 | 1 => u21 | 2 => u22 | 3 => u23 | 4 => u24 | 5 => u25 | 6 => u26 | 7 => u27 | 8 => u28 | 9 => u29 | 10 => u30 | 11 => u31 | 12 => u32 | 13 => u33 | 14 => u34 | 15 => u35 | 16 => u36 | 17 => u37 | 18 => u38 | 19 => u39 | _ => undef) ?h0 ?hop ?hend
      case hC => exact fun A B h h2 => h.trans (h2.mono h.size)
      case h0 => exact (Below.refl _ wr).drew
      case hV =>
        intro i' u A B h hx
        match i', h with
        | 0, h => exact h
        | 1, h => exact h
        | 2, h => exact h
        | 3, h => exact h
        | 4, h => exact h
        | 5, h => exact h
        | 6, h => exact h
        | 7, h => exact h
        | 8, h => exact h
        | 9, h => exact h
        | 10, h => exact h
        | 11, h => exact h
        | 12, h => exact h
        | 13, h => exact h
        | 14, h => exact h
        | 15, h => exact h
        | 16, h => exact h
        | 17, h => exact h
        | 18, h => exact h
        | 19, h =>
          obtain ⟨q, h1, h2⟩ : ∃ q : Nat, u = .slice (some ⟨q, 0, none⟩) 2 2 ∧ A.heap[q]? = some (.cells #[.int .u64 (k1 : Nat), .int .i64 u1, .int .u64 (k2 : Nat), .int .i64 u2] 41 (0, 0)) := h
          exact ⟨q, h1, (hx.block q (Array.getElem?_eq_some_iff.1 h2).1).trans h2⟩
        | n + 20, h => trivial
      case hop =>
        simp only [AllDo]
        refine ⟨?o0, ?o1, ?o2, ?o3, ?o4, ?o5, ?o6, ?o7, ?o8, ?o9, ?o10, ?o11, ?o12, ?o13, ?o14, ?o15, ?o16, ?o17, ?o18, ?o19, trivial⟩
        all_goals intro v W hc hd Q hQ
        all_goals simp [Region.binds] at hd
        all_goals rw [if_pos (show Region.wanted _ _ = true from rfl)]
        case o0 =>
          clear hc
          go_wp2
          refine ⟨u5, ?_, Below.refl _ _, rfl⟩
          first | rfl | simp [updV]
        case o1 =>
          clear hc
          go_wp2
          refine ⟨.slice (some ⟨b, off, none⟩) n0 c0, ?_, Below.refl _ _, rfl⟩
          first | rfl | simp [updV]
        case o2 =>
          clear hc
          go_wp2
          refine ⟨.int .i64 (m : Nat), ?_, Below.refl _ _, rfl⟩
          first | rfl | simp [updV]
        case o3 =>
          clear hc
          go_wp2
          refine ⟨.int .i64 a1, ?_, Below.refl _ _, rfl⟩
          first | rfl | simp [updV]
        case o4 =>
          rw [hd]
          clear hc
          go_wp2
          refine ⟨.int .i64 (kk : Nat), ?_, Below.refl _ _, rfl⟩
          first | rfl | simp [updV, hd]
        case o5 =>
          obtain ⟨h1, h2⟩ := hd
          rw [h1, h2]
          clear hc
          go_wp2
          refine ⟨.int .i64 ((m : Int) + (kk : Int)), ?_, Below.refl _ _, rfl⟩
          first | rfl | simp [updV, h1, h2]
        case o6 =>
          clear hc
          go_wp2
          refine ⟨.slice (some ⟨b, off, none⟩) n0 c0, ?_, Below.refl _ _, rfl⟩
          first | rfl | simp [updV]
        case o7 =>
          rw [hd]
          clear hc
          go_wp2
          refine ⟨.int .i64 (n0 : Nat), ?_, Below.refl _ _, rfl⟩
          first | rfl | simp [updV, hd]
        case o8 =>
          obtain ⟨h1, h2⟩ := hd
          rw [h1, h2]
          clear hc
          go_wp2
          refine ⟨.int .i64 (i1 : Nat), ?_, Below.refl _ _, rfl⟩
          first | rfl | simp [updV, h1, h2]
        case o9 =>
          obtain ⟨h1, h2⟩ := hd
          rw [h1, h2]
          clear hc
          go_wp2
          refine ⟨.pointer (some ⟨b, off + i1 * 2, none⟩), ?_, Below.refl _ _, rfl⟩
          first | rfl | simp [updV, h1, h2]
        case o10 =>
          rw [hd]
          have x0 := (hc.cell (p := ⟨b, off + i1 * 2, none⟩) hbr).trans D0.out
          have x1 := (hc.cell (p := ⟨b, off + i1 * 2 + 1, none⟩) hbr).trans D1.out
          clear hc
          go_wp2
          refine ⟨.agg #[.int .u64 (k1 : Nat), .int .i64 u1], ?_, Below.refl _ _, rfl⟩
          first | rfl | simp [updV, hd]
        case o11 =>
          clear hc
          go_wp2
          refine ⟨.slice (some ⟨b, off, none⟩) n0 c0, ?_, Below.refl _ _, rfl⟩
          first | rfl | simp [updV]
        case o12 =>
          clear hc
          go_wp2
          refine ⟨.slice (some ⟨b, off, none⟩) n0 c0, ?_, Below.refl _ _, rfl⟩
          first | rfl | simp [updV]
        case o13 =>
          rw [hd]
          clear hc
          go_wp2
          refine ⟨.int .i64 (n0 : Nat), ?_, Below.refl _ _, rfl⟩
          first | rfl | simp [updV, hd]
        case o14 =>
          rw [hd]
          clear hc
          go_wp2
          refine ⟨.int .i64 ((n0 : Int) - 1), ?_, Below.refl _ _, rfl⟩
          first | rfl | simp [updV, hd]
        case o15 =>
          clear hc
          go_wp2
          refine ⟨.int .i64 (m : Nat), ?_, Below.refl _ _, rfl⟩
          first | rfl | simp [updV]
        case o16 =>
          obtain ⟨h1, h2⟩ := hd
          rw [h1, h2]
          clear hc
          go_wp2
          refine ⟨.int .i64 (i2 : Nat), ?_, Below.refl _ _, rfl⟩
          first | rfl | simp [updV, h1, h2]
        case o17 =>
          obtain ⟨h1, h2⟩ := hd
          rw [h1, h2]
          clear hc
          go_wp2
          refine ⟨.pointer (some ⟨b, off + i2 * 2, none⟩), ?_, Below.refl _ _, rfl⟩
          first | rfl | simp [updV, h1, h2]
        case o18 =>
          rw [hd]
          have x0 := (hc.cell (p := ⟨b, off + i2 * 2, none⟩) hbr).trans D2.out
          have x1 := (hc.cell (p := ⟨b, off + i2 * 2 + 1, none⟩) hbr).trans D3.out
          clear hc
          go_wp2
          refine ⟨.agg #[.int .u64 (k2 : Nat), .int .i64 u2], ?_, Below.refl _ _, rfl⟩
          first | rfl | simp [updV, hd]
        case o19 =>
          obtain ⟨h1, h2⟩ := hd
          rw [h1, h2]
          have hnw := World.alloc_heap_new W (.cells #[.int .u64 (k1 : Nat), .int .i64 u1, .int .u64 (k2 : Nat), .int .i64 u2] 41)
          have hbn : Below W.heap.size W (W.alloc (.cells #[.int .u64 (k1 : Nat), .int .i64 u1, .int .u64 (k2 : Nat), .int .i64 u2] 41)) := (Below.refl _ _).alloc (Nat.le_refl _) _
          clear hc
          go_wp2
          refine ⟨.slice (some ⟨W.heap.size, 0, none⟩) 2 2, ?_, hbn, W.heap.size, rfl, hnw⟩
          first | rfl | simp [updV, h1, h2]
      case hend =>
        intro v W hc hv
        have e0 : v 0 = u5 := hv 0 (by decide)
        obtain ⟨q, e19, hqc⟩ : ∃ q : Nat, v 19 = .slice (some ⟨q, 0, none⟩) 2 2 ∧ W.heap[q]? = some (.cells #[.int .u64 (k1 : Nat), .int .i64 u1, .int .u64 (k2 : Nat), .int .i64 u2] 41 (0, 0)) := hv 19 (by decide)
        obtain ⟨i0, hi, hz0, hz1, hz2⟩ := info_parts infoTE
        have hRW := row_but HR.out.row (own2 := []) (But.of_below hc) (fun _ _ h => nomatch h)
        have hzw := hc.size
        have hzr := HR.out.bel.size
        clear hv
        simp only [SeqDoes]
        intro Q1 hQ1
        rw [if_pos (show Region.wanted _ _ = true from rfl)]
        refine wpList_append_own_at W rfl (.tmp 20) (.tmp 39) 22 rfl w2.heap.size 41 i0 (.agg #[.int .u64 0, .int .i64 0]) 2 16 Try.underlying22 hi hz0 hz1 hz2 rfl (by decide) u5 out.length (flatVE out) e0 hRW ⟨q, 0, none⟩ 2 2 [.int .u64 (k1 : Nat), .int .i64 u1, .int .u64 (k2 : Nat), .int .i64 u2] e19 rfl (World.news_of_block hqc) (by simp [Value.oneCell']) (by unfold maxLen; omega) (by omega) (by omega) ?_
        intro v' W' hown hg hnil hat
        have hlv := World.ownsRow.lt HR.out.row
        have hbel : Below w2.heap.size w2 W' := (HR.out.bel.trans (hc.mono hzr)).grown hg (by omega) (fun j hj => (hlv j hj).1)
        have hfl : flatVE out ++ [Value.int .u64 (k1 : Nat), .int .i64 u1, .int .u64 (k2 : Nat), .int .i64 u2] = flatVE (out ++ [(k1, u1)] ++ [(k2, u2)]) := by rw [flatVE_app, flatVE_app]; simp
        have hNEW : Hid (RowE w2 v' (out ++ [(k1, u1)] ++ [(k2, u2)]) W') := Lib.hid ⟨by rw [← hfl]; simpa using hown, hbel⟩
        have hS2 : Hid (∀ x ∈ out ++ [(k1, u1)] ++ [(k2, u2)], x ∈ l0) := Lib.hid (fun x hx => by
          simp only [List.mem_append, List.mem_singleton] at hx
          rcases hx with (hx | rfl) | rfl
          · exact HSUB.out x hx
          · exact List.mem_of_getElem? HX1.out
          · exact List.mem_of_getElem? HX2.out)
        have hR2 : Hid (∀ j x, j < m + 1 → l0[n0 - 1 - j]? = some x → x ∈ out ++ [(k1, u1)] ++ [(k2, u2)]) := Lib.hid (fun j x hj hx => by
          by_cases e : j = m
          · subst e
            rw [HI2.out, HX2.out] at hx
            cases hx
            simp
          · have := HREV.out j x (by omega) hx
            simp [this])
        have hl2 : Hid ((out ++ [(k1, u1)] ++ [(k2, u2)]).length = 2 * (m + 1)) := Lib.hid (by simp; omega)
        clear hown hg hnil hat hbel hfl hlv hRW hqc hc
        go_wp2_with fail
        intro Q2 hQ2
        rw [if_pos (show Region.wanted _ _ = true from rfl)]
        go_wp2_with fail
        go_roundw
        case rel => exact ⟨m + 1, _, by go_num, by omega, hNEW.out, hl2.out, hS2.out, hR2.out⟩
        case measure => simp [intOf]; omega
    · obtain rfl : m = n0 := by omega
      have HOKO : Hid (∀ x ∈ out, okS x.1) := Lib.hid (fun x hx => HOK.out x (hsub x hx))
      have hback : ∀ x ∈ l0, x ∈ out := fun x hx => by
        obtain ⟨i, hi⟩ := List.getElem?_of_mem hx
        have hil : i < m := by have := (List.getElem?_eq_some_iff.1 hi).1; have := HN.out; omega
        exact hrev (m - 1 - i) x (by omega) (by rw [show m - 1 - (m - 1 - i) = i from by omega]; exact hi)
      have hsame : ofP out = ofP l0 := of_same sOrd (fun x => ⟨hsub x, hback x⟩) HOKO.out
      have hself : ofP (ofP l0) = ofP l0 := of_self (of_tie HOK.out)
      have HSA := Lib.hid hsame
      have HSE := Lib.hid hself
      have HBW : Hid (Below w.heap.size w wr) := Lib.hid (HB2.out.trans (hR.bel.mono HB2.out.size))
      have hle := of_len' l0
      have HLE : Hid ((ofP l0).length ≤ 60) := Lib.hid (by have := HN.out; omega)
      have HOKF : Hid (∀ x ∈ ofP l0, okS x.1) := Lib.hid (fun x hx => ((of_tie HOK.out).right x hx).1)
      have hEO := EnsP.of_owns hR.row
      obtain ⟨oa, oc, rfl⟩ := own_form hR.row
      have HO1 := Lib.hid (of_any p0 m c0 l0 wr HOK.out (by have := HN.out; omega) ((HZ.out.below HBW.out (Nat.le_refl _)).mono HBW.out.size))
      have HO2 := Lib.hid (fun (W : World) (hb : Below wr.heap.size wr W) => of_any oa out.length oc out W HOKO.out (by omega) ((hEO.below hb (Nat.le_refl _)).mono hb.size))
      have gm : ¬ (m : Int) < m := by omega
      clear hR hsub hrev hback hEO hsame hself hle
      obtain ⟨wo, hwo⟩ : ∃ x, x = wr := ⟨wr, rfl⟩
      subst hwo
      obtain ⟨ol, hol2⟩ : ∃ ol, out.length = ol := ⟨_, rfl⟩
      rw [hol2] at HO2 ⊢
      clear hol2 hol
      go_wp2_with fail
      refine HO1.out.mono ?_
      rintro e w5 ⟨pb, ps, rfl, hpb, hp5, hb5⟩
      have HP5 := Lib.hid hp5
      have HB5 := Lib.hid hb5
      clear hpb hp5 hb5
      go_wp2_with fail
      refine (HO2.out w5 HB5.out).mono ?_
      rintro e w6 ⟨qb, qs, rfl, hqb, hq6, hb6⟩
      rw [HSA.out] at hq6
      have HQ6 := Lib.hid hq6
      have HP6 := Lib.hid (HP5.out.below hb6)
      have HB6 := Lib.hid (HB5.out.trans (hb6.mono HB5.out.size))
      clear hqb hq6 hb6
      have HS1 := Lib.hid (same_any w6 HP6.out HQ6.out (by have := HLE.out; omega) (by have := HLE.out; omega))
      rw [show decide (ofP l0 = ofP l0) = true from by simp] at HS1
      go_wp2_with fail
      refine HS1.out.mono ?_
      rintro e w7 ⟨rfl, hb7⟩
      have HQ7 := Lib.hid (HQ6.out.below hb7)
      have HP7 := Lib.hid (HP6.out.below hb7)
      have HB7 := Lib.hid (HB6.out.trans (hb7.mono HB6.out.size))
      have HS2 := Lib.hid (same_any w7 HQ7.out HP7.out (by have := HLE.out; omega) (by have := HLE.out; omega))
      rw [show decide (ofP l0 = ofP l0) = true from by simp] at HS2
      clear hb7
      go_wp2_with fail
      refine HS2.out.mono ?_
      rintro e w8 ⟨rfl, hb8⟩
      have HQ8 := Lib.hid (HQ7.out.below hb8)
      have HP8 := Lib.hid (HP7.out.below hb8)
      have HB8 := Lib.hid (HB7.out.trans (hb8.mono HB7.out.size))
      have HL8 := Lib.hid (list_any w8 HQ8.out (by have := HLE.out; omega))
      clear hb8
      go_wp2_with fail
      refine HL8.out.mono ?_
      rintro e w9 ⟨v9, rfl, hown9, hb9⟩
      obtain ⟨a9, c9, rfl⟩ := own_form hown9
      have HO9 := Lib.hid (of_any a9 (ofP l0).length c9 (ofP l0) w9 HOKF.out (by have := HLE.out; omega) (EnsP.of_owns hown9))
      rw [HSE.out] at HO9
      have HP9 := Lib.hid (HP8.out.below hb9)
      have HB9 := Lib.hid (HB8.out.trans (hb9.mono HB8.out.size))
      clear hown9 hb9
      go_wp2_with fail
      refine HO9.out.mono ?_
      rintro e w10 ⟨rb, rs, rfl, hrb, hr10, hb10⟩
      have HS3 := Lib.hid (same_any w10 hr10 (HP9.out.below hb10) (by have := HLE.out; omega) (by have := HLE.out; omega))
      rw [show decide (ofP l0 = ofP l0) = true from by simp] at HS3
      have HB10 := Lib.hid (HB9.out.trans (hb10.mono HB9.out.size))
      clear hrb hr10 hb10
      go_wp2_with fail
      refine HS3.out.mono ?_
      rintro e w11 ⟨rfl, hb11⟩
      have HF : Hid (Below w.heap.size w w11) := Lib.hid (HBW.out.trans ((HB10.out.trans (hb11.mono HB10.out.size)).mono HBW.out.size))
      clear hb11
      go_wp2_with fail
      go_ret
      exact ⟨rfl, HF.out⟩


set_option maxRecDepth 100000 in
theorem lifted (os : Os) (started : os.Started) (H : Type) (enc : TypeId × Value → H) :
    ReturnsInHanded {} Try.checked os 5 .any (Rows.priceOrderSpec.pre6 enc Try.prog Try.f5 Rows.priceOrderRow.domain false) (Rows.priceOrderSpec.post enc Try.prog Try.f5 false true false false) := by
  refine returnsInHanded_of_change (C := Try.checked) own started (by kernel_rfl) Try.func5
    (ChangeSpec.witness6 (enc := enc) (C := Try.checked) false ⟨#[], #[.slice none 0 0, .int .i64 0], []⟩ 8 (by kernel_rfl) (by kernel_rfl) (by kernel_rfl) (by kernel_rfl)) ?_
  intro W base args ds gs before hval0 hW hcnd _
  have hval : ∀ (j : Nat) t v, Try.f5.params[j]? = some t → args[j]? = some v → Value.okWide Try.prog W .any base t v := hval0
  have hW' := hW
  obtain ⟨p, q, hA0, hV, rfl, hfz, hnd⟩ := hW
  have hA : DataW.TrodAll enc Try.prog W 0 (fun _ => true) true Try.f5.params.toList args.toList ds p := hA0
  rw [Try.params5] at hA hval
  have hAk := hA
  obtain ⟨v0, vs0, d0, ds0, p0', q0, hargs, rfl, rfl, h0, r0⟩ := trodAll_cons hA
  obtain ⟨v1, vs1, d1, ds1, p1', q1, rfl, rfl, rfl, h1, r1⟩ := trodAll_cons r0
  obtain ⟨rfl, rfl, rfl⟩ := trodAll_nil r1
  obtain rfl : args = #[v0, v1] := by cases args; simp_all
  obtain ⟨rfl, rfl⟩ := trodVars_none hV
  simp only [List.append_nil] at hW' hAk
  have hlt := fun x hx => hW'.lt x hx
  clear hA0 hval0
  obtain ⟨p0, n0, c0, l0, rfl, S0, b0⟩ := open_ents (okWide_slice Try.underlying22 (hval 0 22 v0 rfl rfl)) h0
  obtain ⟨a1, rfl, rfl, rfl, w1⟩ := open_int Try.underlying3 (hval 1 3 v1 rfl rfl) h1
  refine (walk W p0 n0 c0 l0 S0 b0 a1 w1).mono fun e W' ⟨he, hg⟩ => ?_
  subst he
  have hargs := trodAll_below hg _ _ _ _ (by intro t ht; simp only [List.mem_cons, List.not_mem_nil, or_false] at ht; revert t; rintro t (rfl | rfl) <;> exact ⟨by kernel_rfl, of_decide_eq_true (by kernel_rfl)⟩) hAk (fun x hx => by simpa using hlt x hx)
  exact ⟨_, rfl, _, _, _, [], _, [], hW', (trodAll_cons_mk (shut_bool Try.underlying4 _) trodAll_mk0), hargs, rfl, hg.frame _, fun h => by cases h⟩

theorem over : Rows.priceOrderRow.holds Try.pinned (OpenSpec.ofChange Rows.priceOrderSpec) :=
  OpenClaim.holds_of_wide 5 Try.f5 rfl rfl rfl rfl rfl rfl rfl ⟨rfl, rfl, rfl, rfl, rfl⟩ rfl rfl rfl rfl rfl (by kernel_rfl) Try.func5 (by kernel_rfl)
    (of_decide_eq_true (by kernel_rfl)) (by unfold Func.isWrapper; first | (rw [if_pos (by decide +kernel)]; kernel_rfl) | (rw [if_neg (by decide +kernel)]; exact ⟨rfl, rfl⟩))
    (fun os started H enc _ => lifted os started H enc)

theorem proved : Rows.PriceOrderSaid :=
  over
end Go.Proofs.Ytpcbdjdmhemjdaa.priceOrder
