/- For whatever texts law TableTexts answers true: a table by texts has each of them once, in order. No condition. -/
import Derived.Test.YtchnjafcnigllaaTabKX
import Derived.Test.YtchnjafcnigllaaRangeR
import Derived.Test.YtchnjafcnigllaaRegionSeq
namespace Go.Proofs.Ytchnjafcnigllaa.tableTexts
open Go.ChangeShapes Go.WideShapes Go.ChangeAt Go.RowKit Go.Proofs.Ytchnjafcnigllaa
set_option linter.unusedVariables false
attribute [local go_sem] Oper.semAt_some
/-- What stays while the texts are put in. -/
structure TxE (w : World) (TB : Nat) (sp : Value) (l : TK.KV) (W : World) : Prop where
  tab : TK.TabN W TB l
  kb : Boxed W w.heap.size 52 sp
  rb : Boxed W (w.heap.size + 1) 4 (.bool false)
  bel : Below w.heap.size w W
theorem TxE.turn {w : World} {TB : Nat} {sp : Value} {l l' : TK.KV} {W W' : World} (h : TxE w TB sp l W) (hT : TK.TabN W' TB l') (hb : But [TB] W W') (hz : w.heap.size + 2 ≤ TB) : TxE w TB sp l' W' :=
  ⟨hT, (hb.block _ h.kb.lt (by simp; omega)).trans h.kb, (hb.block _ h.rb.lt (by simp; omega)).trans h.rb, h.bel.trans (hb.below (fun k hk => by simp at hk; omega) h.bel.size)⟩
theorem TxE.below {w : World} {TB : Nat} {sp : Value} {l : TK.KV} {W W' : World} (h : TxE w TB sp l W) (hb : Below W.heap.size W W') : TxE w TB sp l W' :=
  ⟨h.tab.below hb, (hb.block _ h.kb.lt).trans h.kb, (hb.block _ h.rb.lt).trans h.rb, h.bel.trans (hb.mono h.bel.size)⟩

set_option maxRecDepth 100000 in
set_option maxHeartbeats 16000000 in
theorem walk (w : World) (p0 : Option Addr) (n0 c0 : Nat) (l0 : List ByteArray) (S0 : Txs w.heap.size w (.slice p0 n0 c0) l0) (b0 : l0.length ≤ Go.maxLen) :
    Calls Try.prog 6 #[.slice p0 n0 c0] w fun e w' => e = .returned (.bool true) ∧ Below w.heap.size w w' := by
  have hlen0 := S0.len
  subst hlen0
  have HS0 := Lib.hid S0
  have HAL := Lib.hid (fun W => tabAlive_any W)
  obtain ⟨n0, hn0⟩ : ∃ n, l0.length = n := ⟨_, rfl⟩
  have HN0 := Lib.hid hn0
  have hmax0 := b0
  rw [hn0] at hmax0 HS0 ⊢
  unfold maxLen at hmax0
  clear S0 b0 hn0
  obtain ⟨wa, hwa⟩ : ∃ wa, (w.alloc (Obj.cells #[.slice p0 n0 c0] 52)).alloc (Obj.cells #[.bool false] 4) = wa := ⟨_, rfl⟩
  have hba : Below w.heap.size w wa := by rw [← hwa]; exact ((Below.refl _ _).alloc (Nat.le_refl _) _).alloc (by simp) _
  have hza : wa.heap.size = w.heap.size + 2 := by rw [← hwa]; simp
  have hKB : Boxed wa w.heap.size 52 (.slice p0 n0 c0) := by rw [← hwa]; exact (Boxed.new w _ _).alloc _
  have hRS : Boxed wa (w.heap.size + 1) 4 (.bool false) := by
    have h := Boxed.new (w.alloc (Obj.cells #[.slice p0 n0 c0] 52)) 4 (.bool false)
    rw [show (w.alloc (Obj.cells #[.slice p0 n0 c0] 52)).heap.size = w.heap.size + 1 from by simp, hwa] at h
    exact h
  have HBA := Lib.hid hba
  have HZA := Lib.hid hza
  have HKB := Lib.hid hKB
  have HRS := Lib.hid hRS
  have HWA := Lib.hid hwa
  clear hba hza hKB hRS hwa
  by_cases hbig : 60 < n0
  · have c0' : decide ((60 : Int) < (n0 : Int)) = true := decide_eq_true (by omega)
    go_enter Try.func6, Try.ntmps6
    go_upto_region 1 with fail
    rw [HWA.out]
    go_upto_region 3 with (go_at_call 9; refine (HAL.out _).mono ?_; rintro e w2 ⟨rfl, hb2⟩; have HB2 := Lib.hid hb2; clear hb2)
    have hR2 : Boxed w2 (w.heap.size + 1) 4 (.bool false) := (HB2.out.block _ HRS.out.lt).trans HRS.out
    have hK2 : Boxed w2 w.heap.size 52 (.slice p0 n0 c0) := (HB2.out.block _ HKB.out.lt).trans HKB.out
    have hRS3 := hR2.set (.bool true)
    have q0 := hK2.cell
    have q1 := hR2.cell
    have z1 := hR2.frozen
    have q3 := hRS3.cell
    have HBF := Lib.hid ((HBA.out.trans (HB2.out.mono HBA.out.size)).setCell (p := ⟨w.heap.size + 1, 0, none⟩) (by simp) (.bool true))
    go_wp2_with fail
    (try simp only [Exit.inBlock, Exit.then])
    refine bodyPost_ret (v := .bool true) ?_ rfl ⟨rfl, HBF.out⟩
    rw [results_cell1 rfl]
    simp [asAddr, Result.andThen]
    go_simp
  have c0' : decide ((60 : Int) < (n0 : Int)) = false := decide_eq_false (by omega)
  by_cases hlk : ∃ j : Nat, j < n0 ∧ ∃ k, l0[j]? = some k ∧ 40 < k.size
  · obtain ⟨jl, hjl, kl, hkl, hkl2⟩ := hlk
    have HKL := Lib.hid hkl
    clear hkl
    go_enter Try.func6, Try.ntmps6
    go_upto_region 1 with fail
    rw [HWA.out]
    go_upto_region 3 with (go_at_call 9; refine (HAL.out _).mono ?_; rintro e w2 ⟨rfl, hb2⟩; have HB2 := Lib.hid hb2; clear hb2)
    have hR2 : Boxed w2 (w.heap.size + 1) 4 (.bool false) := (HB2.out.block _ HRS.out.lt).trans HRS.out
    have hK2 : Boxed w2 w.heap.size 52 (.slice p0 n0 c0) := (HB2.out.block _ HKB.out.lt).trans HKB.out
    have q0 := hK2.cell
    have HR2 := Lib.hid hR2
    have HK2 := Lib.hid hK2
    have HBEL2 : Hid (Below w.heap.size w w2) := Lib.hid (HBA.out.trans (HB2.out.mono HBA.out.size))
    have HZ2 : Hid (w.heap.size + 2 ≤ w2.heap.size) := Lib.hid (by have := HZA.out; have := HB2.out.size; omega)
    clear hR2 hK2
    go_upto_region 6 with fail
    obtain ⟨w3, hw3⟩ : ∃ w3, w2.alloc (Obj.cells #[.pointer none] 55) = w3 := ⟨_, rfl⟩
    have hb23 : Below w2.heap.size w2 w3 := by rw [← hw3]; exact (Below.refl _ _).alloc (Nat.le_refl _) _
    have ht3 : TK.TabN w3 w2.heap.size [] := by
      rw [← hw3]
      exact ⟨⟨.nil, none, World.alloc_heap_new w2 _, rfl, rfl⟩, List.Pairwise.nil⟩
    have hE3 : TxE w w2.heap.size (.slice p0 n0 c0) [] w3 := ⟨ht3, (hb23.block _ HK2.out.lt).trans HK2.out, (hb23.block _ HR2.out.lt).trans HR2.out, HBEL2.out.trans (hb23.mono HBEL2.out.size)⟩
    obtain ⟨TB, hTB⟩ : ∃ T, w2.heap.size = T := ⟨_, rfl⟩
    rw [hTB] at hE3 HZ2
    rw [hw3, hTB]
    have q03 := hE3.kb.cell
    have HE3 := Lib.hid hE3
    clear hw3 hb23 ht3 hTB hE3 HK2 HR2 HBEL2 q0
    go_wp2_with fail
    go_loopw [23] (fun i wr => ∃ (m : Nat) (l : TK.KV), i = .int .i64 m ∧ m ≤ n0 ∧ TK.LastOf l0 m l ∧ TxE w TB (.slice p0 n0 c0) l wr ∧ ∀ (j : Nat) k, j < m → l0[j]? = some k → k.size ≤ 40) (fun i _ => n0 - (intOf i).toNat)
    case atStart => exact ⟨0, [], rfl, Nat.zero_le _, TK.LastOf.zero l0, HE3.out, fun j k h => by omega⟩
    case round =>
      obtain ⟨m, l, rfl, hm, hLO, hE, hsh⟩ := hrel
      clear HE3 q03
      by_cases hlt : m < n0
      · obtain ⟨k, hk⟩ : ∃ k, l0[m]? = some k := ⟨_, List.getElem?_eq_getElem (by rw [HN0.out]; exact hlt)⟩
        obtain ⟨b, off, rfl, hb, d0⟩ := HS0.out.at_ hk
        have d1 := (hE.bel.cell (p := ⟨b, off + m, none⟩) hb).trans d0
        have b1 : (0 : Int) ≤ m := by omega
        have b2 : (m : Int) < n0 := by omega
        by_cases hlong : 40 < k.size
        · have g1 : decide ((40 : Int) < (k.size : Int)) = true := decide_eq_true (by omega)
          have g2 : decide (40 < k.size) = true := decide_eq_true hlong
          have q1 := hE.rb.cell
          have z1 := hE.rb.frozen
          have hRS3 := hE.rb.set (.bool true)
          have q3 := hRS3.cell
          have HBF := Lib.hid (hE.bel.setCell (p := ⟨w.heap.size + 1, 0, none⟩) (by simp) (.bool true))
          go_wp2_with fail
          (try simp only [Exit.inBlock, Exit.then])
          refine bodyPost_ret (v := .bool true) ?_ rfl ⟨rfl, HBF.out⟩
          rw [results_cell1 rfl]
          simp [asAddr, Result.andThen]
          go_simp
        · have g1 : decide ((40 : Int) < (k.size : Int)) = false := decide_eq_false (by omega)
          have g2 : decide (40 < k.size) = false := decide_eq_false hlong
          have HPT := Lib.hid (TK.tablePutN k (m : Int) TB l wr hE.tab (by have := hLO.len; omega))
          have HLO := Lib.hid (hLO.next hE.tab.rise hk)
          have HE := Lib.hid hE
          have HSM : Hid (∀ (j : Nat) k, j < m + 1 → l0[j]? = some k → k.size ≤ 40) := Lib.hid (fun j k' hj hk' => by
            rcases Nat.lt_or_ge j m with h | h
            · exact hsh j k' h hk'
            · obtain rfl : j = m := by omega
              rw [hk] at hk'
              cases hk'
              omega)
          clear hE hLO hsh hk hb d0
          go_wp2_with fail
          refine HPT.out.mono ?_
          rintro e W2 ⟨rfl, h2, b2'⟩
          have HE2 := Lib.hid (HE.out.turn h2 b2' HZ2.out)
          clear h2 b2' HPT HE d1
          go_wp2_with fail
          go_roundw
          case rel => exact ⟨m + 1, _, by go_num, by omega, HLO.out, HE2.out, HSM.out⟩
          case measure => simp [intOf]; omega
      · obtain rfl : m = n0 := by omega
        exact absurd (hsh jl kl hjl HKL.out) (by omega)
  have HSH : Hid (∀ (j : Nat) k, l0[j]? = some k → k.size ≤ 40) := Lib.hid (fun j k h => by
    apply Decidable.byContradiction
    intro h2
    exact hlk ⟨j, by rw [← HN0.out]; exact (List.getElem?_eq_some_iff.1 h).1, k, h, by omega⟩)
  clear hlk
  refine (callsIn_wide (n := 3)).1 ?_
  refine callsIn_of_wp_marks Try.func6 rfl trivial ?_ rfl
  simp only [Try.ntmps6, List.size_toArray, List.length_cons, List.length_nil, Nat.reduceAdd, Nat.reduceSub, Array.replicate_succ, Array.replicate_zero, List.push_toArray, List.append_toArray, List.nil_append, List.cons_append]
  refine wpIn_wide.2 ?_
  go_upto_region 1 with fail
  rw [HWA.out]
  go_upto_region 3 with (go_at_call 9; refine (HAL.out _).mono ?_; rintro e w2 ⟨rfl, hb2⟩; have HB2 := Lib.hid hb2; clear hb2)
  have hR2 : Boxed w2 (w.heap.size + 1) 4 (.bool false) := (HB2.out.block _ HRS.out.lt).trans HRS.out
  have hK2 : Boxed w2 w.heap.size 52 (.slice p0 n0 c0) := (HB2.out.block _ HKB.out.lt).trans HKB.out
  have q0 := hK2.cell
  have HR2 := Lib.hid hR2
  have HK2 := Lib.hid hK2
  have HBEL2 : Hid (Below w.heap.size w w2) := Lib.hid (HBA.out.trans (HB2.out.mono HBA.out.size))
  have HZ2 : Hid (w.heap.size + 2 ≤ w2.heap.size) := Lib.hid (by have := HZA.out; have := HB2.out.size; omega)
  clear hR2 hK2
  go_upto_region 6 with fail
  obtain ⟨w3, hw3⟩ : ∃ w3, w2.alloc (Obj.cells #[.pointer none] 55) = w3 := ⟨_, rfl⟩
  have hb23 : Below w2.heap.size w2 w3 := by rw [← hw3]; exact (Below.refl _ _).alloc (Nat.le_refl _) _
  have ht3 : TK.TabN w3 w2.heap.size [] := by
    rw [← hw3]
    exact ⟨⟨.nil, none, World.alloc_heap_new w2 _, rfl, rfl⟩, List.Pairwise.nil⟩
  have hE3 : TxE w w2.heap.size (.slice p0 n0 c0) [] w3 := ⟨ht3, (hb23.block _ HK2.out.lt).trans HK2.out, (hb23.block _ HR2.out.lt).trans HR2.out, HBEL2.out.trans (hb23.mono HBEL2.out.size)⟩
  obtain ⟨TB, hTB⟩ : ∃ T, w2.heap.size = T := ⟨_, rfl⟩
  rw [hTB] at hE3 HZ2
  rw [hw3, hTB]
  have q03 := hE3.kb.cell
  have HE3 := Lib.hid hE3
  clear hw3 hb23 ht3 hTB hE3 HK2 HR2 HBEL2 q0
  go_wp2_with fail
  go_loopw [23] (fun i wr => ∃ (m : Nat) (l : TK.KV), i = .int .i64 m ∧ m ≤ n0 ∧ TK.LastOf l0 m l ∧ TxE w TB (.slice p0 n0 c0) l wr ∧ ∀ (j : Nat) k, j < m → l0[j]? = some k → k.size ≤ 40) (fun i _ => n0 - (intOf i).toNat)
  case atStart => exact ⟨0, [], rfl, Nat.zero_le _, TK.LastOf.zero l0, HE3.out, fun j k h => by omega⟩
  case round =>
    obtain ⟨m, l, rfl, hm, hLO, hE, hsh⟩ := hrel
    clear HE3 q03
    by_cases hlt : m < n0
    · obtain ⟨k, hk⟩ : ∃ k, l0[m]? = some k := ⟨_, List.getElem?_eq_getElem (by rw [HN0.out]; exact hlt)⟩
      obtain ⟨b, off, rfl, hb, d0⟩ := HS0.out.at_ hk
      have d1 := (hE.bel.cell (p := ⟨b, off + m, none⟩) hb).trans d0
      have b1 : (0 : Int) ≤ m := by omega
      have b2 : (m : Int) < n0 := by omega
      by_cases hlong : 40 < k.size
      · have g1 : decide ((40 : Int) < (k.size : Int)) = true := decide_eq_true (by omega)
        have g2 : decide (40 < k.size) = true := decide_eq_true hlong
        exact absurd (HSH.out m k hk) (by omega)
      · have g1 : decide ((40 : Int) < (k.size : Int)) = false := decide_eq_false (by omega)
        have g2 : decide (40 < k.size) = false := decide_eq_false hlong
        have HPT := Lib.hid (TK.tablePutN k (m : Int) TB l wr hE.tab (by have := hLO.len; omega))
        have HLO := Lib.hid (hLO.next hE.tab.rise hk)
        have HE := Lib.hid hE
        have HSM : Hid (∀ (j : Nat) k, j < m + 1 → l0[j]? = some k → k.size ≤ 40) := Lib.hid (fun j k' hj hk' => by
          rcases Nat.lt_or_ge j m with h | h
          · exact hsh j k' h hk'
          · obtain rfl : j = m := by omega
            rw [hk] at hk'
            cases hk'
            omega)
        clear hE hLO hsh hk hb d0
        go_wp2_with fail
        refine HPT.out.mono ?_
        rintro e W2 ⟨rfl, h2, b2'⟩
        have HE2 := Lib.hid (HE.out.turn h2 b2' HZ2.out)
        clear h2 b2' HPT HE d1
        go_wp2_with fail
        go_roundw
        case rel => exact ⟨m + 1, _, by go_num, by omega, HLO.out, HE2.out, HSM.out⟩
        case measure => simp [intOf]; omega
    · obtain rfl : m = n0 := by omega
      obtain ⟨w4, hw4⟩ : ∃ w4, w4 = wr := ⟨_, rfl⟩
      subst hw4
      have HE := Lib.hid hE
      have HLO := Lib.hid hLO
      have HALL := Lib.hid (fun W => TK.allN TB W)
      clear hE hLO hsh
      go_upto_region 14 with fail
      obtain ⟨w5, hw5⟩ : ∃ w5, (w4.alloc (Obj.cells #[.string ⟨#[]⟩] 9)).alloc (Obj.cells #[.int .i64 0] 3) = w5 := ⟨_, rfl⟩
      have hb45 : Below w4.heap.size w4 w5 := by rw [← hw5]; exact ((Below.refl _ _).alloc (Nat.le_refl _) _).alloc (by simp) _
      have hz5 : w5.heap.size = w4.heap.size + 2 := by rw [← hw5]; simp
      have hL5 : Boxed w5 w4.heap.size 9 (.string ⟨#[]⟩) := by rw [← hw5]; exact (Boxed.new w4 _ _).alloc _
      have hN5 : Boxed w5 (w4.heap.size + 1) 3 (.int .i64 0) := by
        have h := Boxed.new (w4.alloc (Obj.cells #[.string ⟨#[]⟩] 9)) 3 (.int .i64 0)
        rw [show (w4.alloc (Obj.cells #[.string ⟨#[]⟩] 9)).heap.size = w4.heap.size + 1 from by simp, hw5] at h
        exact h
      rw [hw5]
      have HB45 := Lib.hid hb45
      have HZ5 := Lib.hid hz5
      have HL5 := Lib.hid hL5
      have HN5 := Lib.hid hN5
      clear hw5 hb45 hz5 hL5 hN5
      go_wp2_with fail
      refine (HALL.out _).mono ?_
      rintro e w6 ⟨rfl, hw6⟩
      have HW6 := Lib.hid hw6
      clear hw6
      go_wp2_with fail
      have hb56 : Below w5.heap.size w5 w6 := by rw [HW6.out]; exact (Below.refl _ _).alloc (Nat.le_refl _) _
      have hz6 : w6.heap.size = w4.heap.size + 3 := by rw [HW6.out]; simp [HZ5.out]
      have hp6 : w6.heap[w4.heap.size + 2]? = some (.cells #[.pointer (some ⟨TB, 0, none⟩)] 85 (0, 0)) := by rw [HW6.out, ← HZ5.out]; exact World.alloc_heap_new w5 _
      have HE6 := Lib.hid (HE.out.below (HB45.out.trans (hb56.mono HB45.out.size)))
      have HL6 : Hid (Boxed w6 w4.heap.size 9 (.string ⟨#[]⟩)) := Lib.hid ((hb56.block _ HL5.out.lt).trans HL5.out)
      have HN6 : Hid (Boxed w6 (w4.heap.size + 1) 3 (.int .i64 0)) := Lib.hid ((hb56.block _ HN5.out.lt).trans HN5.out)
      have HP6 := Lib.hid hp6
      have HZ6 := Lib.hid hz6
      have HTL : Hid (TB < w4.heap.size) := Lib.hid HE.out.tab.lt
      obtain ⟨LB, hLB⟩ : ∃ b, w4.heap.size = b := ⟨_, rfl⟩
      have HLB := Lib.hid hLB
      rw [hLB] at HL6 HN6 HP6 HZ6 HTL
      clear hb56 hz6 hp6 HALL HE HL5 HN5 hLB
      rename_i K1 K hKQ
      refine (wpIn_wide (n := 3)).1 ?_
      refine wpIn_actG ?_
      intro A hA
      rw [HZ5.out, HLB.out] at hA
      obtain ⟨t, a, h1, h2, h3⟩ := HE6.out.tab.at_
      have HA1 := Lib.hid h1
      have HA2 := Lib.hid h2
      have HA3 := Lib.hid h3
      clear h1 h2 h3
      refine rangeG rfl (by omega) (gf := 57) (lb := #[.pointer (some ⟨LB + 2, 0, none⟩)]) (by rw [hA]; rfl) trivial (enters_of Try.func57 (by kernel_rfl) rfl) (encs := fun (x : ByteArray × Int) => #[.string x.1, .int .i64 x.2]) (fun _ => rfl)
        (TK.TxJ w6 LB (LB + 1) l) (fun s x W => TK.TxJ w6 LB (LB + 1) l s W ∧ ∃ r, s.1 = x :: r)
        (fun (s : TK.KV × Nat) (x : ByteArray × Int) a1 W => (TK.TxJ w6 LB (LB + 1) l s W ∧ ∃ r, s.1 = x :: r) ∧ a1 = { tmps := (((A.tmps.setIfInBounds 36 (.string x.1)).setIfInBounds 37 (.int .i64 x.2)).setIfInBounds 8 (.string x.1)).setIfInBounds 9 (.int .i64 x.2), defers := [] })
        (fun c W => False) (fun s s' => s'.1 = s.1.tail) (fun s _ => s.1 = []) (l, 0)
        (fun s => TK.TxJ.noRec (by have := HZ6.out; omega) (by have := HZ6.out; omega) s)
        (fun s x a1 W o k hk ⟨⟨h1, hg⟩, h5⟩ => ⟨⟨TK.TxJ.noRec (by have := HZ6.out; omega) (by have := HZ6.out; omega) s W o k hk h1, hg⟩, h5⟩)
        (fun c W o k hk h => h) (fun _ _ _ _ _ h => h) (fun r => ?start)
        (TK.all1N (b := TB) (t := t) (a := a) (TK.txC HL6.out HN6.out) (fun W hW => ⟨?cella, ?cellb⟩) HA2.out HA3.out.symm)
        ?assign ?body ?done ?stop
      case start =>
        have hb := ((Below.refl w6.heap.size w6).alloc (Nat.le_refl _) (.deferred (some []))).alloc (by simp) (.loop r)
        exact ⟨But.of_below hb, (HN6.out.alloc _).alloc _, ⟨_, (HL6.out.alloc _).alloc _, .inl rfl⟩, rfl, Nat.zero_le _⟩
      case cella =>
        exact cell_of_row W _ 0 _ _ _ ((hW.but.block _ (by have := HZ6.out; omega) (by simp)).trans HP6.out)
      case cellb =>
        exact cell_of_row W _ 0 _ _ _ ((hW.but.block _ (Array.getElem?_eq_some_iff.1 HA1.out).1 (by have := HTL.out; simp; omega)).trans HA1.out)
      case assign =>
        rintro l0' s ⟨x, u⟩ W K' hj hzW hK
        rw [hA] at hK ⊢
        gi_wp2
        exact hK _ _ ⟨hj, rfl⟩ ⟨rfl, rfl⟩
      case body =>
        rintro l9 ⟨rem, i⟩ ⟨x, u⟩ a9 V ⟨⟨hj, r, hr⟩, rfl⟩ hzV
        have hrem := hj.rem
        simp only at hr hrem
        rw [hr] at hrem
        have hxi : l[i]? = some (x, u) := by
          have h := congrArg List.head? hrem
          rw [List.head?_drop] at h
          exact h
        have hil : i < l.length := (List.getElem?_eq_some_iff.1 hxi).1
        obtain ⟨j, hj1, hju, hj2, hj3⟩ := HLO.out.mem (x, u) (List.mem_of_getElem? hxi)
        simp only at hju hj2 hj3
        subst hju
        have hnw : w.heap.size + 2 ≤ LB := by have := HZ2.out; have := HTL.out; omega
        have hne : ∀ {k : Nat}, k < LB → k ∉ [LB, LB + 1] := fun h => by simp; omega
        have hKV : Boxed V w.heap.size 52 (.slice p0 m c0) := (hj.but.block _ HE6.out.kb.lt (hne (by omega))).trans HE6.out.kb
        obtain ⟨b, off, rfl, hb, d0⟩ := HS0.out.at_ hj2
        have hbV : Below w.heap.size w V := HE6.out.bel.trans (hj.but.below (fun k hk => by simp at hk; omega) HE6.out.bel.size)
        have e0 := (hbV.cell (p := ⟨b, off + j, none⟩) hb).trans d0
        obtain ⟨z, hz1, hz2⟩ := hj.last
        have c1 : V.cell? ⟨LB + 1, 0, none⟩ = some (.int .i64 (i : Nat)) := hj.num.cell
        have c1f := hj.num.frozen
        have c2 := hz1.cell
        have c2f := hz1.frozen
        have c3 := hKV.cell
        have g1 : decide ((j : Int) < 0) = false := decide_eq_false (by omega)
        have g2 : decide ((m : Int) ≤ (j : Int)) = false := decide_eq_false (by omega)
        have g2n : decide (m ≤ j) = false := decide_eq_false (by omega)
        have g3 : (0 : Int) ≤ j := by omega
        have g4 : (j : Int) < m := by omega
        have hle := HLO.out.len
        obtain ⟨rl, hrl⟩ : ∃ rl, m - (j + 1) = rl := ⟨_, rfl⟩
        obtain ⟨cr, hcr⟩ : ∃ cr, c0 - (j + 1) = cr := ⟨_, rfl⟩
        have hcap := HS0.out.cap
        have g5 : (j : Int) + 1 ≤ m := by omega
        have g6 : (0 : Int) ≤ (j : Int) + 1 := by omega
        have g7 : j + 1 ≤ m := by omega
        have HJ := Lib.hid hj
        have HXI := Lib.hid hxi
        have HREM := Lib.hid hrem
        have HBV := Lib.hid hbV
        have HZ1 := Lib.hid hz1
        have HZ2' := Lib.hid hz2
        have HJ3 := Lib.hid hj3
        have HRR := Lib.hid hr
        clear hj hxi hrem hbV hz1 hz2 hj3 hj2 hne d0 hr
        have hw1 : IntKind.i64.wrap ((i : Int) + 1) = ((i + 1 : Nat) : Int) := IntWalk.i64_in _ (by omega)
        have HEND : Hid (SameRec w6.heap.size V ((V.setCell ⟨LB, 0, none⟩ (.string x)).setCell ⟨LB + 1, 0, none⟩ (.int .i64 ((i : Int) + 1))) ∧ ∃ s', s'.1 = rem.tail ∧ TK.TxJ w6 LB (LB + 1) l s' ((V.setCell ⟨LB, 0, none⟩ (.string x)).setCell ⟨LB + 1, 0, none⟩ (.int .i64 ((i : Int) + 1)))) := Lib.hid (by
          have hz6 := HZ6.out
          have hbu : But [LB, LB + 1] V ((V.setCell ⟨LB, 0, none⟩ (.string x)).setCell ⟨LB + 1, 0, none⟩ (.int .i64 ((i : Int) + 1))) := ((But.refl _ V).set (.inl (by simp)) _).set (.inl (by simp)) _
          refine ⟨⟨hbu.block _ (by omega) (by simp; omega), hbu.block _ (by omega) (by simp; omega)⟩, (rem.tail, i + 1), rfl, HJ.out.but.trans' hbu, ?_, ⟨x, (HZ1.out.set (.string x)).other (by omega) _, .inr ⟨(x, (j : Int)), by simpa using HXI.out, rfl⟩⟩, ?_, hil⟩
          · exact ((HJ.out.num.other (by omega) _).set (.int .i64 ((i : Int) + 1)))
          · have h1 := HREM.out
            simp only
            rw [← List.tail_drop, h1, HRR.out])
        rw [hA]
        by_cases hi0 : 0 < i
        · have g0 : decide ((0 : Int) < (i : Int)) = true := decide_eq_true (by omega)
          have g0n : decide (0 < i) = true := decide_eq_true hi0
          have hlt2 : TK.ltN z x = true := by
            rcases HZ2'.out with h | ⟨x9, h9, rfl⟩
            · simp only at h; omega
            · have hri := HE6.out.tab.rise
              simp only at h9
              have hxi := HXI.out
              obtain ⟨hA9, hB9⟩ := List.getElem?_eq_some_iff.1 h9
              obtain ⟨hC9, hD9⟩ := List.getElem?_eq_some_iff.1 hxi
              have hpw := List.pairwise_iff_getElem.1 hri (i - 1) i hA9 hC9 (by omega)
              rw [hB9, hD9] at hpw
              exact hpw
          have d1 : Op.bytesLess x.toList z.toList = false := Tr.asym TK.ordN hlt2
          have d2 : (x.toList == z.toList) = false := by
            cases e : (x.toList == z.toList) with
            | false => rfl
            | true =>
              have e2 := TK.bytes_ext (eq_of_beq e)
              exact (Tr.ne_of TK.ordN hlt2 e2.symm).elim
          clear hlt2
          rcases Nat.eq_or_lt_of_le (show j + 1 ≤ c0 by omega) with hcj | hcj
          · subst hcj
            have hrl0 : Hid (rl = 0) := Lib.hid (by omega)
            gi_wp2_with fail
            gi_loopw [68] (fun k wr => ∃ q : Nat, k = .int .i64 q ∧ q ≤ rl ∧ wr = V) (fun k _ => rl - (intOf k).toNat)
            case atStart => exact ⟨0, rfl, Nat.zero_le _, rfl⟩
            case round =>
              obtain ⟨q, rfl, hq, rfl⟩ := hrel
              obtain rfl : q = rl := by have := hrl0.out; omega
              gi_wp2_with fail
              exact HEND.out
          · have hcj2 : ¬ c0 = j + 1 := by omega
            gi_wp2_with fail
            gi_loopw [68] (fun k wr => ∃ q : Nat, k = .int .i64 q ∧ q ≤ rl ∧ wr = V) (fun k _ => rl - (intOf k).toNat)
            case atStart => exact ⟨0, rfl, Nat.zero_le _, rfl⟩
            case round =>
              obtain ⟨q, rfl, hq, rfl⟩ := hrel
              by_cases hqr : q < rl
              · obtain ⟨y, hy⟩ : ∃ y, l0[j + 1 + q]? = some y := ⟨_, List.getElem?_eq_getElem (by rw [HN0.out]; omega)⟩
                obtain ⟨b9, off9, he9, hb9, d9⟩ := HS0.out.at_ hy
                cases he9
                have d8 := (HBV.out.cell (p := ⟨b, off + (j + 1 + q), none⟩) hb9).trans d9
                rw [show off + (j + 1 + q) = off + (j + 1) + q by omega] at d8
                have hyx : (y.toList == x.toList) = false := by
                  cases e : (y.toList == x.toList) with
                  | false => rfl
                  | true =>
                    have e2 := TK.bytes_ext (eq_of_beq e)
                    subst e2
                    exact (HJ3.out (j + 1 + q) (by omega) (by omega) hy).elim
                have g8 : (0 : Int) ≤ q := by omega
                have g9 : (q : Int) < rl := by omega
                clear hy d9
                gi_wp2_with fail
                go_roundw
                case rel => exact ⟨q + 1, by go_num, by omega, by first | rfl | trivial⟩
                case measure => simp [intOf]; omega
              · obtain rfl : q = rl := by omega
                gi_wp2_with fail
                exact HEND.out
        · have g0 : decide ((0 : Int) < (i : Int)) = false := decide_eq_false (by omega)
          have g0n : decide (0 < i) = false := decide_eq_false hi0
          rcases Nat.eq_or_lt_of_le (show j + 1 ≤ c0 by omega) with hcj | hcj
          · subst hcj
            have hrl0 : Hid (rl = 0) := Lib.hid (by omega)
            gi_wp2_with fail
            gi_loopw [68] (fun k wr => ∃ q : Nat, k = .int .i64 q ∧ q ≤ rl ∧ wr = V) (fun k _ => rl - (intOf k).toNat)
            case atStart => exact ⟨0, rfl, Nat.zero_le _, rfl⟩
            case round =>
              obtain ⟨q, rfl, hq, rfl⟩ := hrel
              obtain rfl : q = rl := by have := hrl0.out; omega
              gi_wp2_with fail
              exact HEND.out
          · have hcj2 : ¬ c0 = j + 1 := by omega
            gi_wp2_with fail
            gi_loopw [68] (fun k wr => ∃ q : Nat, k = .int .i64 q ∧ q ≤ rl ∧ wr = V) (fun k _ => rl - (intOf k).toNat)
            case atStart => exact ⟨0, rfl, Nat.zero_le _, rfl⟩
            case round =>
              obtain ⟨q, rfl, hq, rfl⟩ := hrel
              by_cases hqr : q < rl
              · obtain ⟨y, hy⟩ : ∃ y, l0[j + 1 + q]? = some y := ⟨_, List.getElem?_eq_getElem (by rw [HN0.out]; omega)⟩
                obtain ⟨b9, off9, he9, hb9, d9⟩ := HS0.out.at_ hy
                cases he9
                have d8 := (HBV.out.cell (p := ⟨b, off + (j + 1 + q), none⟩) hb9).trans d9
                rw [show off + (j + 1 + q) = off + (j + 1) + q by omega] at d8
                have hyx : (y.toList == x.toList) = false := by
                  cases e : (y.toList == x.toList) with
                  | false => rfl
                  | true =>
                    have e2 := TK.bytes_ext (eq_of_beq e)
                    subst e2
                    exact (HJ3.out (j + 1 + q) (by omega) (by omega) hy).elim
                have g8 : (0 : Int) ≤ q := by omega
                have g9 : (q : Int) < rl := by omega
                clear hy d9
                gi_wp2_with fail
                go_roundw
                case rel => exact ⟨q + 1, by go_num, by omega, by first | rfl | trivial⟩
                case measure => simp [intOf]; omega
              · obtain rfl : q = rl := by omega
                gi_wp2_with fail
                exact HEND.out
      case done =>
        rintro ⟨rem, i⟩ W hj he hD
        simp only at he
        subst he
        have hrem := hj.rem
        have hle := hj.le
        simp only at hrem hle
        have hil : i = l.length := by
          have h := congrArg List.length hrem
          rw [List.length_drop] at h
          simp at h
          omega
        have hnw : w.heap.size + 2 ≤ LB := by have := HZ2.out; have := HTL.out; omega
        have hne : ∀ {k : Nat}, k < LB → k ∉ [LB, LB + 1] := fun h => by simp; omega
        have hKV : Boxed W w.heap.size 52 (.slice p0 m c0) := (hj.but.block _ HE6.out.kb.lt (hne (by omega))).trans HE6.out.kb
        have hRV : Boxed W (w.heap.size + 1) 4 (.bool false) := (hj.but.block _ HE6.out.rb.lt (hne (by omega))).trans HE6.out.rb
        have hTW : TK.TabN W TB l := HE6.out.tab.stay ((TK.txC (L := l) HL6.out HN6.out).stay _ _ hj) (hj.but.block _ HE6.out.tab.lt (hne HTL.out))
        have hbW : Below w.heap.size w W := HE6.out.bel.trans (hj.but.below (fun k hk => by simp at hk; omega) HE6.out.bel.size)
        have c1 : W.cell? ⟨LB + 1, 0, none⟩ = some (.int .i64 (i : Nat)) := hj.num.cell
        have c3 := hKV.cell
        have HRV := Lib.hid hRV
        have HTW := Lib.hid hTW
        have HBW := Lib.hid hbW
        have HD := Lib.hid hD
        have HIL := Lib.hid hil
        rw [hA]
        refine hKQ _ _ ?_
        clear hj hrem hle hKV hRV hTW hbW hD hne
        go_wp2_with fail
        go_loopw [81] (fun k wr => ∃ q n : Nat, k = .int .i64 q ∧ q ≤ m ∧ wr = W.drewN n) (fun k _ => m - (intOf k).toNat)
        case atStart => exact ⟨0, 0, rfl, Nat.zero_le _, rfl⟩
        case round =>
          obtain ⟨q, n, rfl, hq, rfl⟩ := hrel
          by_cases hqm : q < m
          · obtain ⟨k, hk⟩ : ∃ k, l0[q]? = some k := ⟨_, List.getElem?_eq_getElem (by rw [HN0.out]; exact hqm)⟩
            obtain ⟨b, off, rfl, hb, d0⟩ := HS0.out.at_ hk
            have d1 : (W.drewN n).cell? ⟨b, off + q, none⟩ = some (.string k) := (HBW.out.cell (p := ⟨b, off + q, none⟩) hb).trans d0
            have b1 : (0 : Int) ≤ q := by omega
            have b2 : (q : Int) < m := by omega
            have hgt := TK.tableGetN k TB l (W.drewN n) (HTW.out.below (below_dr W n))
            rw [HLO.out.get q k hqm hk] at hgt
            obtain ⟨gv, hgv⟩ : ∃ gv, (Tr.getK k l).getD 0 = gv := ⟨_, rfl⟩
            rw [hgv] at hgt
            have HGT := Lib.hid hgt
            clear hgt hgv hk d0
            go_wp2_with fail
            refine HGT.out.mono ?_
            rintro e W2 ⟨rfl, n2, hW2⟩
            rw [World.drewN_drewN] at hW2
            subst hW2
            clear HGT d1
            go_wp2_with fail
            go_roundw
            case rel => exact ⟨q + 1, n + n2, by go_num, by omega, rfl⟩
            case measure => simp [intOf]; omega
          · obtain rfl : q = m := by omega
            obtain ⟨W9, hW9⟩ : ∃ W9, W.drewN n = W9 := ⟨_, rfl⟩
            have hb9 : Below W.heap.size W W9 := by rw [← hW9]; exact below_dr W n
            have c9 : W9.cell? ⟨LB + 1, 0, none⟩ = some (.int .i64 (i : Nat)) := by rw [← hW9]; exact c1
            have hRS9 : Boxed W9 (w.heap.size + 1) 4 (.bool false) := (hb9.block _ HRV.out.lt).trans HRV.out
            have hLT := TK.tableLenN TB l W9.drew (HTW.out.below (hb9.trans (below_dr W9 1 |>.mono hb9.size)))
            rw [← HIL.out] at hLT
            have HLT := Lib.hid hLT
            have HD9 : Hid (W9.heap[w6.heap.size]? = some (.deferred (some []))) := Lib.hid (by rw [← hW9]; exact HD.out)
            have HBW9 : Hid (Below w.heap.size w W9) := Lib.hid (HBW.out.trans (hb9.mono HBW.out.size))
            have HRS9 := Lib.hid hRS9
            rw [hW9]
            clear hW9 hb9 hLT hRS9 c1 c3
            go_upto_region 34 with fail
            refine region_seq (l := [_, _, _]) (t := [_]) (by kernel_rfl) (by decide +kernel) (by decide +kernel) (fun y => { tmps := #[Value.slice p0 q c0, Value.pointer (some ⟨w.heap.size, 0, none⟩), Value.pointer (some ⟨w.heap.size + 1, 0, none⟩), Value.pointer (some ⟨TB, 0, none⟩), u4, u5, Value.pointer (some ⟨LB, 0, none⟩), Value.pointer (some ⟨LB + 1, 0, none⟩), undef, undef, undef, undef, undef, u13, u14, u15, Value.bool true, Value.bool false, Value.slice p0 q c0, Value.int IntKind.i64 (q : Int), Value.bool false, Value.slice p0 q c0, Value.int IntKind.i64 (q : Int), Value.int IntKind.i64 (q : Int), Value.bool false, u25, u26, u27, u28, u29, u30, u31, u32, u33, u34, Value.func (Fn.func 57) #[] #[Value.pointer (some ⟨LB + 2, 0, none⟩)], undef, undef, undef, undef, undef, undef, undef, undef, undef, undef, undef, undef, undef, undef, undef, undef, undef, undef, undef, undef, undef, undef, undef, undef, undef, undef, undef, undef, undef, undef, undef, undef, undef, undef, undef, undef, undef, undef, undef, undef, undef, undef, undef, Value.slice p0 q c0, Value.int IntKind.i64 (q : Int), Value.int IntKind.i64 (q : Int), Value.bool false, u83, u84, u85, u86, u87, u88, u89, u90, u91, u92, y 0, y 1, y 2], defers := [{ target := .collected w6.heap.size, args := #[] }] }) (fun V => V = W9.drew) (fun i' u V => match i' with
                | 0 => u = .int .i64 (i : Nat)
                | 1 => u = .int .i64 (i : Nat)
                | 2 => u = .bool true
                | _ => True) (fun A B => A = B) ?hC ?hV (fun _ => undef) ?h0 ?hop ?hend
            case hC => exact fun A B h e => e ▸ h
            case h0 => exact rfl
            case hV => exact fun i' u A B h e => by subst e; exact h
            case hop =>
              have c9d : W9.drew.cell? ⟨LB + 1, 0, none⟩ = some (.int .i64 (i : Nat)) := c9
              simp only [AllDo]
              refine ⟨?o0, ?o1, ?o2, trivial⟩
              all_goals rintro y V rfl hd Q hQ
              all_goals simp [Region.binds] at hd
              all_goals rw [if_pos (show Region.wanted _ _ = true from rfl)]
              case o0 =>
                go_wp2
                first | exact ⟨_, rfl, rfl, rfl⟩ | (simp [updV]; done) | (simp [updV]; have := HIL.out; omega)
              case o1 =>
                go_wp2_with fail
                refine HLT.out.mono ?_
                rintro e W' ⟨rfl, rfl⟩
                go_wp2
                first | exact ⟨_, rfl, rfl, rfl⟩ | (simp [updV]; done) | (simp [updV]; have := HIL.out; omega)
              case o2 =>
                obtain ⟨h0, h1⟩ := hd
                go_wp2
                first | exact ⟨_, rfl, rfl, rfl⟩ | (simp [updV, h0, h1]; done) | (simp [updV, h0, h1]; have := HIL.out; omega)
            case hend =>
              intro x V hc hv
              subst hc
              have e2 : x 2 = .bool true := hv 2 (by decide)
              have q1 := HRS9.out.cell
              have z1 := HRS9.out.frozen
              have q1d : W9.drew.cell? ⟨w.heap.size + 1, 0, none⟩ = some (.bool false) := q1
              have z1d : W9.drew.frozen? ⟨w.heap.size + 1, 0, none⟩ = false := z1
              clear hv
              simp only [SeqDoes]
              intro Q1 hQ1
              rw [if_pos (show Region.wanted _ _ = true from rfl)]
              go_wp2_with fail
              have hRS3 := HRS9.out.set (.bool true)
              have hB1 : Below w.heap.size w (W9.setCell ⟨w.heap.size + 1, 0, none⟩ (.bool true)) := HBW9.out.setCell (by show w.heap.size ≤ w.heap.size + 1; omega) _
              have hD' : (W9.setCell ⟨w.heap.size + 1, 0, none⟩ (.bool true)).heap[w6.heap.size]? = some (.deferred (some [])) := (Below.heap_setCell W9 ⟨w.heap.size + 1, 0, none⟩ (.bool true) w6.heap.size (by have := HZ6.out; simp; omega)).trans HD9.out
              have hB2 : Below w.heap.size w (((W9.setCell ⟨w.heap.size + 1, 0, none⟩ (.bool true)).drew).putObj w6.heap.size (.deferred none)) := hB1.drew.trans ((But.putObj _ w6.heap.size _).below (fun j hj => by have := HZ6.out; simp at hj; omega) hB1.size)
              have hRS4 : Boxed (((W9.setCell ⟨w.heap.size + 1, 0, none⟩ (.bool true)).drew).putObj w6.heap.size (.deferred none)) (w.heap.size + 1) 4 (.bool true) := (World.putObj_heap_other (by have := HZ6.out; omega)).trans hRS3
              have q4 := hRS4.cell
              have HB2 := Lib.hid hB2
              clear hB1 hB2 hRS3 hRS4
              refine ⟨by simp, .inl ⟨_, _, rfl, run_takeDeferred (show ((W9.setCell ⟨w.heap.size + 1, 0, none⟩ (.bool true)).drew).heap[w6.heap.size]? = _ from hD'), ?_⟩⟩
              refine ⟨.bool true, ?_, rfl, HB2.out⟩
              rw [results_cell1 rfl]
              simp [asAddr, Result.andThen]
              go_simp
      case stop =>
        rintro c W hF hD
        exact hF.elim


set_option maxRecDepth 100000 in
theorem lifted (os : Os) (started : os.Started) (H : Type) (enc : TypeId × Value → H) :
    ReturnsInHanded {} Try.checked os 6 .any (Rows.tableTextsSpec.pre6 enc Try.prog Try.f6 Rows.tableTextsRow.domain false) (Rows.tableTextsSpec.post enc Try.prog Try.f6 false true false false) := by
  refine returnsInHanded_of_change (C := Try.checked) own started (by kernel_rfl) Try.func6
    (ChangeSpec.witness6 (enc := enc) (C := Try.checked) false ⟨#[], #[.slice none 0 0], []⟩ 8 (by kernel_rfl) (by kernel_rfl) (by kernel_rfl) (by kernel_rfl)) ?_
  intro W base args ds gs before hval0 hW hcnd _
  have hval : ∀ (j : Nat) t v, Try.f6.params[j]? = some t → args[j]? = some v → Value.okWide Try.prog W .any base t v := hval0
  have hW' := hW
  obtain ⟨p, q, hA0, hV, rfl, hfz, hnd⟩ := hW
  have hA : DataW.TrodAll enc Try.prog W 0 (fun _ => true) true Try.f6.params.toList args.toList ds p := hA0
  rw [Try.params6] at hA hval
  have hAk := hA
  obtain ⟨v0, vs0, d0, ds0, p0', q0, hargs, rfl, rfl, h0, r0⟩ := trodAll_cons hA
  obtain ⟨rfl, rfl, rfl⟩ := trodAll_nil r0
  obtain rfl : args = #[v0] := by cases args; simp_all
  obtain ⟨rfl, rfl⟩ := trodVars_none hV
  simp only [List.append_nil] at hW' hAk
  have hlt := fun x hx => hW'.lt x hx
  clear hA0 hval0
  obtain ⟨p0, n0, c0, l0, rfl, S0, b0⟩ := open_texts (okWide_slice Try.underlying52 (hval 0 52 v0 rfl rfl)) h0
  refine (walk W p0 n0 c0 l0 S0 b0).mono fun e W' ⟨he, hg⟩ => ?_
  subst he
  have hargs := trodAll_below hg _ _ _ _ (by intro t ht; simp only [List.mem_cons, List.not_mem_nil, or_false] at ht; revert t; rintro t rfl; exact ⟨by kernel_rfl, of_decide_eq_true (by kernel_rfl)⟩) hAk (fun x hx => by simpa using hlt x hx)
  exact ⟨_, rfl, _, _, _, [], _, [], hW', (trodAll_cons_mk (shut_bool Try.underlying4 _) trodAll_mk0), hargs, rfl, hg.frame _, fun h => by cases h⟩

theorem over : Rows.tableTextsRow.holds Try.pinned (OpenSpec.ofChange Rows.tableTextsSpec) :=
  OpenClaim.holds_of_wide 6 Try.f6 rfl rfl rfl rfl rfl rfl rfl ⟨rfl, rfl, rfl, rfl, rfl⟩ rfl rfl rfl rfl rfl (by kernel_rfl) Try.func6 (by kernel_rfl)
    (of_decide_eq_true (by kernel_rfl)) (by unfold Func.isWrapper; first | (rw [if_pos (by decide +kernel)]; kernel_rfl) | (rw [if_neg (by decide +kernel)]; exact ⟨rfl, rfl⟩))
    (fun os started H enc _ => lifted os started H enc)

theorem proved : Rows.TableTextsSaid :=
  over
end Go.Proofs.Ytchnjafcnigllaa.tableTexts
