/- The document's own journal: Append, Compact. -/
import Derived.Test.YtpllbojmonfeiaaRefDj
import Derived.Test.YtpllbojmonfeiaaRegionSeq
namespace Go.Proofs.Ytpllbojmonfeiaa
open Go.RowKit SumM
set_option linter.unusedVariables false
attribute [local go_sem] Oper.semAt_some

/-- What Append hands back. -/
def ApD (E : List Nat) (w : World) (v : Value) (l0 l1 : List Nat) (cap r a f : Nat) (rec : List Nat) (e : Ending) (w' : World) : Prop := Below w.heap.size w w' ∧
  if 4096 < rec.length then e = .returned (.tuple #[v, .int .i64 2])
  else if cap < f + (rec.length + 7) then e = .returned (.tuple #[v, .int .i64 6])
  else ∃ v', e = .returned (.tuple #[v', .int .i64 0]) ∧ DocJ E w' v' (if r = 0 then l0 ++ frameL 4 rec else l0) (if r = 0 then l1 else l1 ++ frameL 4 rec) cap r a (f + (rec.length + 7))
/-- What Compact hands back. -/
def CoD (E : List Nat) (w : World) (v : Value) (l0 l1 : List Nat) (cap r a : Nat) (snap : List Nat) (e : Ending) (w' : World) : Prop := Below w.heap.size w w' ∧
  if a = 18446744073709551615 then e = .returned (.tuple #[v, .int .i64 3])
  else if cap < heavyN (a + 1) snap.length then e = .returned (.tuple #[v, .int .i64 6])
  else ∃ v', e = .returned (.tuple #[v', .int .i64 0]) ∧ DocJ E w' v' (if 1 - r = 0 then joinF (beginFs (a + 1) snap) else l0) (if 1 - r = 0 then l1 else joinF (beginFs (a + 1) snap)) cap (1 - r) (a + 1) (heavyN (a + 1) snap.length)

/-- What a region begins with has its own snapshot, and no records. -/
theorem begin_snap {age : Nat} {snap : List Nat} (h0 : 0 < age) (ha : age < 18446744073709551616) (hs : ∀ x ∈ snap, x < 256) (hn : snap.length ≤ 1048576) : snapL (joinF (beginFs age snap)) = snap ∧ recsL (joinF (beginFs age snap)) = [] := by
  have hok := begin_ok age ha snap hs hn
  have h := (scan_join0 (beginFs age snap) [] (.inl rfl) hok).1
  rw [List.append_nil] at h
  have hb := reg_bods age snap []
  have e0 : regL age snap [] = beginFs age snap := by unfold regL; simp
  rw [e0] at hb
  have hp := (take_rises (beginFs age snap) o0 sane0 (begin_take h0 ha (by omega)).1).1
  unfold snapL recsL
  rw [h, bodF_pos 2 _ _ hp, bodF_pos 4 _ _ hp, hb.1, hb.2.1]
  exact ⟨chunksL_flat snap, rfl⟩
set_option maxRecDepth 100000 in
set_option maxHeartbeats 8000000 in
theorem jcompact_any (v : Value) (l0 l1 : List Nat) (cap r a f : Nat) (hr : r = 0 ∨ r = 1) (ha0 : 0 < a) (ha : a < 18446744073709551616) (snap : List Nat) (hs : ∀ x ∈ snap, x < 256) (hn : snap.length ≤ 1000000) (pa : Option Addr) (n c : Nat) (w : World) (hS : Sl encY w.heap.size w (.slice pa n c) snap) (E : List Nat) (hE : ∀ k ∈ E, k < w.heap.size) (hJ : DocJ E w v l0 l1 cap r a f) :
    Calls Try.prog 32 #[v, .slice pa n c] w (CoD E w v l0 l1 cap r a snap) := by
  have hz := zjd
  obtain ⟨p0, p1, ps, pr, n0, c0, n1, c1, ns, cs, nr, cr, rfl, h1, h2, h3, h4, h5, h6, h7⟩ := hJ.val
  obtain ⟨N, hN⟩ : ∃ N, w.heap.size = N := ⟨_, rfl⟩
  have HNN := Lib.hid hN
  have H1 := Lib.hid h1
  have H2 := Lib.hid h2
  have HSN := Lib.hid hS
  have HR := Lib.hid hr
  have HE := Lib.hid hE
  have HO0 := Lib.hid h5
  have HO1 := Lib.hid h6
  clear h5 h6 h7 hE
  clear hJ h1 h2 h3 h4 hS hr
  by_cases ham : a = 18446744073709551615
  · subst ham
    go_enter Try.func32, Try.ntmps32
    go_wp2
    refine bodyPost_ret (jd_res2 _ 4 5 rfl _ _ (N + 1) _ _ _ _ _ _ _ _ _ rfl rfl (by rw [← HNN.out]; exact in_new2 _ _ _)) rfl ?_
    unfold CoD
    rw [if_pos rfl]
    exact ⟨in_new2_below _ _ _, rfl⟩
  · have HAM := Lib.hid ham
    have hami : ¬ ((a : Int) = 18446744073709551615) := by omega
    have hami' : ((a : Int) == 18446744073709551615) = false := beq_eq_false_iff_ne.2 hami
    have ha1 : (a : Int) + 1 < 18446744073709551616 := by omega
    have hage : ((a : Int) + 1) = ((a + 1 : Nat) : Int) := by omega
    have HAGE := Lib.hid hage
    clear hage ham
    go_enter Try.func32, Try.ntmps32
    go_upto_region 3 with fail
    obtain ⟨w1, hw1⟩ : ∃ w1, (w.alloc (.cells (jdC (.slice p0 n0 c0) (.slice p1 n1 c1) (cap : Nat) (r : Nat) (a : Nat) (.slice ps ns cs) (.slice pr nr cr) (f : Nat)) rjT)).alloc (.cells (jdC (.slice none 0 0) (.slice none 0 0) 0 0 0 (.slice none 0 0) (.slice none 0 0) 0) rjT) = w1 := ⟨_, rfl⟩
    have rJ : w1.heap[N]? = some (.cells (jdC (.slice p0 n0 c0) (.slice p1 n1 c1) (cap : Nat) (r : Nat) (a : Nat) (.slice ps ns cs) (.slice pr nr cr) (f : Nat)) rjT (0, 0)) := by rw [← hw1, ← HNN.out, Below.heap_alloc _ _ _ (by simp)]; exact World.alloc_heap_new w _
    have rZ : w1.heap[N + 1]? = some (.cells (jdC (.slice none 0 0) (.slice none 0 0) 0 0 0 (.slice none 0 0) (.slice none 0 0) 0) rjT (0, 0)) := by rw [← hw1, ← HNN.out]; exact in_new2 _ _ _
    have hb1 : Below w.heap.size w w1 := by rw [← hw1]; exact in_new2_below _ _ _
    rw [hw1]
    have HJ := Lib.hid rJ
    have HZ := Lib.hid rZ
    have HB1 := Lib.hid hb1
    have j4 := (cellsJ8 rJ).2.2.2.2.1
    have HBG := Lib.hid (jbegin_any (a + 1) (by omega) (by omega) pa n c snap hs hn w1 ((HSN.out.below hb1).mono hb1.size))
    rw [← HAGE.out] at HBG
    clear hw1 rJ rZ hb1 hN
    go_wp2_with fail
    refine HBG.out.mono ?_
    rintro e w2 ⟨q, k, d, rfl, hs2, hb2, hnb⟩
    have hoq : Off E (.slice q k d) := fun ad m e h _ hm => by
      have h1 := hnb ad m e h
      have h2 := HE.out _ hm
      have h3 := HB1.out.size
      omega
    have HOQ := Lib.hid hoq
    clear hnb hoq
    have hk : k = heavyN (a + 1) snap.length := by rw [hs2.len]; exact begin_length _ _
    have HK := Lib.hid hk
    have HS2 := Lib.hid hs2
    have HJ2 := Lib.hid ((hb2.block N (Array.getElem?_eq_some_iff.1 HJ.out).1).trans HJ.out)
    have HZ2 := Lib.hid ((hb2.block (N + 1) (Array.getElem?_eq_some_iff.1 HZ.out).1).trans HZ.out)
    have HB2 : Hid (Below w.heap.size w w2) := Lib.hid (HB1.out.trans (hb2.mono HB1.out.size))
    clear hk hs2 hb2 j4 HJ HZ HBG
    obtain ⟨j0, j1, j2, j3, j4, j5, j6, j7, jf⟩ := cellsJ8 HJ2.out
    obtain ⟨z0, z1, z2, z3, z4, z5, z6, z7, zf⟩ := cellsJ8 HZ2.out
    have zf0 := zf 0
    have zf1 := zf 1
    have zf2 := zf 2
    have zf3 := zf 3
    have zf4 := zf 4
    have zf5 := zf 5
    have zf6 := zf 6
    have zf7 := zf 7
    by_cases hful : cap < k
    · have hfi : (cap : Int) < (k : Int) := by omega
      clear zf
      go_wp2
      refine bodyPost_ret (jd_res2 _ 4 5 rfl _ _ (N + 1) _ _ _ _ _ _ _ _ _ rfl rfl (heap_set8 HZ2.out)) rfl ?_
      unfold CoD
      rw [if_neg HAM.out, ← HK.out, if_pos hful]
      refine ⟨?_, rfl⟩
      have h := HB2.out
      rw [HNN.out] at h ⊢
      exact set8_below h (by omega)
    · have hfi : ¬ (cap : Int) < (k : Int) := by omega
      have jf3 := jf 3
      clear zf zf0 zf1 zf2 zf3 zf4 zf5 zf6 zf7 z0 z1 z2 z3 z4 z5 z6 z7
      have hr1 : ((1 : Int) - (r : Int)) = ((1 - r : Nat) : Int) := by rcases HR.out with h | h <;> subst h <;> rfl
      go_upto_region 7 with fail
      obtain ⟨R, hRR⟩ : ∃ R, 1 - r = R := ⟨_, rfl⟩
      have hR01 : R = 0 ∨ R = 1 := by omega
      have HRE := Lib.hid hRR
      have HR01 := Lib.hid hR01
      rw [hRR]
      obtain ⟨w3, hw3⟩ : ∃ w3, w2.setCell ⟨N, 3, none⟩ (.int .i64 (R : Nat)) = w3 := ⟨_, rfl⟩
      have rJ3 : w3.heap[N]? = some (.cells (jdC (.slice p0 n0 c0) (.slice p1 n1 c1) (cap : Nat) (R : Nat) (a : Nat) (.slice ps ns cs) (.slice pr nr cr) (f : Nat)) rjT (0, 0)) := by rw [← hw3]; exact heap_setCell_same w2 N 3 _ _ _ HJ2.out
      have hb3 : But [N] w2 w3 := by rw [← hw3]; exact (But.refl _ _).set (by simp) _
      have rZ3 := (hb3.block (N + 1) (Array.getElem?_eq_some_iff.1 HZ2.out).1 (by simp)).trans HZ2.out
      have hS3 := HS2.out.but hb3 (off_cells HS2.out HJ2.out (jdC_no _ _ _ _ _ _ _ _ _ _ _ _ _ _ _ _))
      have hbw3 : Below w.heap.size w w3 := HB2.out.trans (hb3.below (fun k hk => by simp at hk; have := HNN.out; omega) HB2.out.size)
      obtain ⟨q0, m0, d0, hq0⟩ : ∃ q0 m0 d0, (if R = 0 then Value.slice q k d else .slice p0 n0 c0) = .slice q0 m0 d0 := by split; exact ⟨_, _, _, rfl⟩; exact ⟨_, _, _, rfl⟩
      obtain ⟨q1, m1, d1, hq1⟩ : ∃ q1 m1 d1, (if R = 0 then Value.slice p1 n1 c1 else .slice q k d) = .slice q1 m1 d1 := by split; exact ⟨_, _, _, rfl⟩; exact ⟨_, _, _, rfl⟩
      have HD0 : Hid (Sl encY w3.heap.size w3 (.slice q0 m0 d0) (if R = 0 then joinF (beginFs (a + 1) snap) else l0)) := Lib.hid (by
        rw [← hq0]
        rcases hR01 with h | h
        · rw [if_pos h, if_pos h]; exact hS3
        · rw [if_neg (by omega), if_neg (by omega)]; exact (H1.out.below hbw3).mono hbw3.size)
      have HD1 : Hid (Sl encY w3.heap.size w3 (.slice q1 m1 d1) (if R = 0 then l1 else joinF (beginFs (a + 1) snap))) := Lib.hid (by
        rw [← hq1]
        rcases hR01 with h | h
        · rw [if_pos h, if_pos h]; exact (H2.out.below hbw3).mono hbw3.size
        · rw [if_neg (by omega), if_neg (by omega)]; exact hS3)
      have HP0 : Hid (Off E (.slice q0 m0 d0)) := Lib.hid (by rw [← hq0]; split; exact HOQ.out; exact HO0.out)
      have HP1 : Hid (Off E (.slice q1 m1 d1)) := Lib.hid (by rw [← hq1]; split; exact HO1.out; exact HOQ.out)
      have HST := Lib.hid (jset_any p0 p1 n0 c0 n1 c1 (cap : Nat) (R : Nat) (a : Nat) ps pr ns nr cs cr (f : Nat) R hR01 q k d w3)
      rw [hq0, hq1] at HST
      have HJ3 := Lib.hid rJ3
      have HZ3 := Lib.hid rZ3
      have HB3 := Lib.hid hbw3
      rw [hw3]
      clear hw3 rJ3 hb3 rZ3 hS3 hbw3 hq0 hq1 hR01 hRR jf3 jf j0 j1 j2 j3 j4 j5 j6 j7
      obtain ⟨j0, j1, j2, j3, j4, j5, j6, j7, jf⟩ := cellsJ8 HJ3.out
      clear jf
      go_wp2_with fail
      refine HST.out.mono ?_
      rintro e w4 ⟨rfl, hb4⟩
      have rJ4 := (hb4.block N (Array.getElem?_eq_some_iff.1 HJ3.out).1).trans HJ3.out
      have rZ4 := (hb4.block (N + 1) (Array.getElem?_eq_some_iff.1 HZ3.out).1).trans HZ3.out
      obtain ⟨w6, hw6⟩ : ∃ w6, (((((((((w4.setCell ⟨N, 0, none⟩ (.slice q0 m0 d0)).setCell ⟨N, 1, none⟩ (.slice q1 m1 d1)).setCell ⟨N, 2, none⟩ (.int .i64 (cap : Nat))).setCell ⟨N, 3, none⟩ (.int .i64 (R : Nat))).setCell ⟨N, 4, none⟩ (.int .u64 (a : Nat))).setCell ⟨N, 5, none⟩ (.slice ps ns cs)).setCell ⟨N, 6, none⟩ (.slice pr nr cr)).setCell ⟨N, 7, none⟩ (.int .i64 (f : Nat))).setCell ⟨N, 4, none⟩ (.int .u64 ((a : Int) + 1))) = w6 := ⟨_, rfl⟩
      have hb8 := set8_but w4 N (v0 := .slice q0 m0 d0) (v1 := .slice q1 m1 d1) (v2 := .int .i64 (cap : Nat)) (v3 := .int .i64 (R : Nat)) (v4 := .int .u64 (a : Nat)) (v5 := .slice ps ns cs) (v6 := .slice pr nr cr) (v7 := .int .i64 (f : Nat))
      have rJ5 := heap_set8 (v0 := .slice q0 m0 d0) (v1 := .slice q1 m1 d1) (v2 := .int .i64 (cap : Nat)) (v3 := .int .i64 (R : Nat)) (v4 := .int .u64 (a : Nat)) (v5 := .slice ps ns cs) (v6 := .slice pr nr cr) (v7 := .int .i64 (f : Nat)) rJ4
      have rJ6 : w6.heap[N]? = some (.cells (jdC (.slice q0 m0 d0) (.slice q1 m1 d1) (cap : Nat) (R : Nat) ((a : Int) + 1) (.slice ps ns cs) (.slice pr nr cr) (f : Nat)) rjT (0, 0)) := by rw [← hw6]; exact heap_setCell_same _ N 4 _ _ _ rJ5
      have hb6 : But [N] w4 w6 := by rw [← hw6]; exact hb8.set (by simp) _
      have rZ6 := (hb6.block (N + 1) (Array.getElem?_eq_some_iff.1 rZ4).1 (by simp)).trans rZ4
      have hcJ := jdC_no p0 p1 ps pr n0 c0 n1 c1 ns cs nr cr (cap : Nat) (R : Nat) (a : Nat) (f : Nat)
      have hd0 := (HD0.out.below hb4).mono hb4.size
      have hd1 := (HD1.out.below hb4).mono hb4.size
      have HD0' := Lib.hid (hd0.but hb6 (off_cells hd0 rJ4 hcJ))
      have HD1' := Lib.hid (hd1.but hb6 (off_cells hd1 rJ4 hcJ))
      have hbw6 : Below w.heap.size w w6 := (HB3.out.trans (hb4.mono HB3.out.size)).trans (hb6.below (fun k hk => by simp at hk; have := HNN.out; omega) (Nat.le_trans HB3.out.size hb4.size))
      have HCP := Lib.hid (copyY_any pa n c snap (by omega) w6 ((HSN.out.below hbw6).mono hbw6.size))
      have HJ6 := Lib.hid rJ6
      have HZ6 := Lib.hid rZ6
      have HB6 := Lib.hid hbw6
      have HW6 := Lib.hid hw6
      obtain ⟨j0, j1, j2, j3, j4, j5, j6, j7, jf⟩ := cellsJ8 rJ4
      have jf0 := jf 0
      have jf1 := jf 1
      have jf2 := jf 2
      have jf3 := jf 3
      have jf4 := jf 4
      have jf5 := jf 5
      have jf6 := jf 6
      have jf7 := jf 7
      clear hb8 rJ5 rJ6 hb6 rZ6 hcJ hd0 hd1 hbw6 hw6 jf rJ4 rZ4 hb4 HST
      go_upto_region 9 with fail
      rw [HW6.out]
      clear HW6 j0 j1 j2 j3 j4 j5 j6 j7 jf0 jf1 jf2 jf3 jf4 jf5 jf6 jf7
      go_wp2_with fail
      refine HCP.out.mono ?_
      rintro e w7 ⟨v7, rfl, hown7, hb7⟩
      have hs7 := Sl.of_owns hown7
      obtain ⟨ps', ns', cs', rfl⟩ := ownsRow_form hown7
      have HP2 : Hid (Off E (.slice ps' ns' cs')) := Lib.hid (fun ad m e h _ hm => by
        have h1 := own_blockJ hown7 ad m e h
        have h2 := HE.out _ hm
        have h3 := HB6.out.size
        omega)
      have rJ7 := (hb7.block N (Array.getElem?_eq_some_iff.1 HJ6.out).1).trans HJ6.out
      have rZ7 := (hb7.block (N + 1) (Array.getElem?_eq_some_iff.1 HZ6.out).1).trans HZ6.out
      obtain ⟨w8, hw8⟩ : ∃ w8, ((w7.setCell ⟨N, 5, none⟩ (.slice ps' ns' cs')).setCell ⟨N, 6, none⟩ (.slice none 0 0)).setCell ⟨N, 7, none⟩ (.int .i64 (k : Nat)) = w8 := ⟨_, rfl⟩
      have rJ8 : w8.heap[N]? = some (.cells (jdC (.slice q0 m0 d0) (.slice q1 m1 d1) (cap : Nat) (R : Nat) ((a : Int) + 1) (.slice ps' ns' cs') (.slice none 0 0) (k : Nat)) rjT (0, 0)) := by rw [← hw8]; exact heap_setCell_same _ N 7 _ _ _ (heap_setCell_same _ N 6 _ _ _ (heap_setCell_same _ N 5 _ _ _ rJ7))
      have hb8 : But [N] w7 w8 := by rw [← hw8]; exact (((But.refl _ _).set (by simp) _).set (by simp) _).set (by simp) _
      have rZ8 := (hb8.block (N + 1) (Array.getElem?_eq_some_iff.1 rZ7).1 (by simp)).trans rZ7
      have hcJ := jdC_no q0 q1 ps pr m0 d0 m1 d1 ns cs nr cr (cap : Nat) (R : Nat) ((a : Int) + 1) (f : Nat)
      have hd0 := (HD0'.out.below hb7).mono hb7.size
      have hd1 := (HD1'.out.below hb7).mono hb7.size
      have HE0 := Lib.hid (hd0.but hb8 (off_cells hd0 rJ7 hcJ))
      have HE1 := Lib.hid (hd1.but hb8 (off_cells hd1 rJ7 hcJ))
      have HE2 := Lib.hid (hs7.but hb8 (off_cells hs7 rJ7 hcJ))
      have HB8 : Hid (Below w.heap.size w w8) := Lib.hid ((HB6.out.trans (hb7.mono HB6.out.size)).trans (hb8.below (fun k hk => by simp at hk; have := HNN.out; omega) (Nat.le_trans HB6.out.size hb7.size)))
      have HW8 := Lib.hid hw8
      have HJ8 := Lib.hid rJ8
      have HZ8 := Lib.hid rZ8
      have jf5 := (cellsJ8 rJ7).2.2.2.2.2.2.2.2 5
      have jf6 := (cellsJ8 rJ7).2.2.2.2.2.2.2.2 6
      have jf7 := (cellsJ8 rJ7).2.2.2.2.2.2.2.2 7
      have j5 := (cellsJ8 rJ7).2.2.2.2.2.1
      have j6 := (cellsJ8 rJ7).2.2.2.2.2.2.1
      have j7 := (cellsJ8 rJ7).2.2.2.2.2.2.2.1
      clear hw8 rJ8 hb8 rZ8 hcJ hd0 hd1 rJ7 rZ7 hs7 hown7 hb7
      go_upto_region 12 with fail
      rw [HW8.out]
      clear HW8 jf5 jf6 jf7 j5 j6 j7
      obtain ⟨j0, j1, j2, j3, j4, j5, j6, j7, jf⟩ := cellsJ8 HJ8.out
      obtain ⟨z0, z1, z2, z3, z4, z5, z6, z7, zf⟩ := cellsJ8 HZ8.out
      have zf0 := zf 0
      have zf1 := zf 1
      have zf2 := zf 2
      have zf3 := zf 3
      have zf4 := zf 4
      have zf5 := zf 5
      have zf6 := zf 6
      have zf7 := zf 7
      clear jf zf
      go_wp2
      refine bodyPost_ret (jd_res2 _ 4 5 rfl _ _ (N + 1) _ _ _ _ _ _ _ _ _ rfl rfl (heap_set8 HZ8.out)) rfl ?_
      have hbE := set8_but w8 (N + 1) (v0 := .slice q0 m0 d0) (v1 := .slice q1 m1 d1) (v2 := .int .i64 (cap : Nat)) (v3 := .int .i64 (R : Nat)) (v4 := .int .u64 ((a : Int) + 1)) (v5 := .slice ps' ns' cs') (v6 := .slice none 0 0) (v7 := .int .i64 (k : Nat))
      have hbl := set8_below (b := N + 1) (v0 := .slice q0 m0 d0) (v1 := .slice q1 m1 d1) (v2 := .int .i64 (cap : Nat)) (v3 := .int .i64 (R : Nat)) (v4 := .int .u64 ((a : Int) + 1)) (v5 := .slice ps' ns' cs') (v6 := .slice none 0 0) (v7 := .int .i64 (k : Nat)) HB8.out (by have := HNN.out; omega)
      obtain ⟨wE, hwE⟩ : ∃ wE, ((((((((w8.setCell ⟨N + 1, 0, none⟩ (.slice q0 m0 d0)).setCell ⟨N + 1, 1, none⟩ (.slice q1 m1 d1)).setCell ⟨N + 1, 2, none⟩ (.int .i64 (cap : Nat))).setCell ⟨N + 1, 3, none⟩ (.int .i64 (R : Nat))).setCell ⟨N + 1, 4, none⟩ (.int .u64 ((a : Int) + 1))).setCell ⟨N + 1, 5, none⟩ (.slice ps' ns' cs')).setCell ⟨N + 1, 6, none⟩ (.slice none 0 0)).setCell ⟨N + 1, 7, none⟩ (.int .i64 (k : Nat))) = wE := ⟨_, rfl⟩
      rw [hwE] at hbE hbl ⊢
      have hcZ := jdC_no none none none none 0 0 0 0 0 0 0 0 0 0 0 0
      have he0 := HE0.out.but hbE (off_cells HE0.out HZ8.out hcZ)
      have he1 := HE1.out.but hbE (off_cells HE1.out HZ8.out hcZ)
      have he2 := HE2.out.but hbE (off_cells HE2.out HZ8.out hcZ)
      have hsn := begin_snap (age := a + 1) (by omega) (by omega) hs (by omega)
      unfold CoD
      rw [if_neg HAM.out, ← HK.out, if_neg hful, HRE.out, HAGE.out]
      have hrow : (if R = 0 then (if R = 0 then joinF (beginFs (a + 1) snap) else l0) else (if R = 0 then l1 else joinF (beginFs (a + 1) snap))) = joinF (beginFs (a + 1) snap) := by
        rcases HR01.out with h | h
        · rw [if_pos h, if_pos h]
        · rw [if_neg (by omega), if_neg (by omega)]
      refine ⟨hbl, _, rfl, ⟨q0, q1, ps', none, m0, d0, m1, d1, ns', cs', 0, 0, rfl, he0, he1, ?_, ?_, HP0.out, HP1.out, HP2.out⟩⟩
      · rw [hrow, hsn.1]; exact he2
      · rw [hrow, hsn.2]; exact RcO.nil _ _
end Go.Proofs.Ytpllbojmonfeiaa
