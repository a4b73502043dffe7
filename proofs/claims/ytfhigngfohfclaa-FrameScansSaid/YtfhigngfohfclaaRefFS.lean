/- The contract of the document's own Scan for layer 6. -/
import Derived.Test.YtfhigngfohfclaaRefFR
import Derived.Test.YtfhigngfohfclaaFrameJ
namespace Go.Proofs.Ytfhigngfohfclaa
open Go.RowKit SumM
set_option linter.unusedVariables false

theorem infoR : (Try.prog.info? 87).map (fun i => (i.zero, i.size, i.bytes)) = some (some (.agg #[.int .i64 0, .int .i64 0, .slice none 0 0]), 3, 40) := by kernel_rfl
def cellsR (ys : List FX) : List Value := ys.flatMap fun y => [.int .i64 y.1.1, .int .i64 y.1.2.1, y.2]
theorem cellsR_snoc (ys : List FX) (y : FX) : cellsR (ys ++ [y]) = cellsR ys ++ [.int .i64 y.1.1, .int .i64 y.1.2.1, y.2] := by simp [cellsR]
theorem cellsR_get : ∀ (ys : List FX) (k : Nat) (y : FX), ys[k]? = some y → (cellsR ys)[k * 3]? = some (.int .i64 y.1.1) ∧ (cellsR ys)[k * 3 + 1]? = some (.int .i64 y.1.2.1) ∧ (cellsR ys)[k * 3 + 2]? = some y.2
  | [], k, y, h => by simp at h
  | x :: ys, 0, y, h => by
    cases h
    exact ⟨rfl, rfl, rfl⟩
  | x :: ys, k + 1, y, h => by
    have ih := cellsR_get ys k y (by simpa using h)
    have e : cellsR (x :: ys) = .int .i64 x.1.1 :: .int .i64 x.1.2.1 :: x.2 :: cellsR ys := rfl
    rw [e, show (k + 1) * 3 = k * 3 + 1 + 1 + 1 from by omega]
    exact ⟨ih.1, ih.2.1, ih.2.2⟩
theorem new_cells3 (w : World) (x y z : Value) (t : TypeId) : ∀ j u, [x, y, z][j]? = some u → (w.alloc (.cells #[x, y, z] t)).cell? ((⟨w.heap.size, 0, none⟩ : Addr).add j) = some u := by
  intro j u hj
  rw [show (⟨w.heap.size, 0, none⟩ : Addr).add j = ⟨w.heap.size, 0 + j, none⟩ from by unfold Addr.add; split <;> simp_all, Nat.zero_add, cell_new_row]
  match j, hj with
  | 0, h => cases h; rfl
  | 1, h => cases h; rfl
  | 2, h => cases h; rfl
  | j + 3, h => simp at h
theorem ownsRow_empty3 (w : World) (e : TypeId) : (w.alloc (.cells #[] e)).ownsRow w.heap.size e 3 (.slice (some ⟨w.heap.size, 0, none⟩) 0 0) 0 [] :=
  ⟨rfl, .inr ⟨w.heap.size, 0, #[], rfl, Nat.le_refl _, World.alloc_heap_new w _, Nat.le_refl _, Nat.zero_le _, rfl, rfl⟩⟩
/-- What the slice value shows does not stand in that block. -/
def OffB (row : Option Nat) (sv : Value) : Prop := ∀ ad n c, sv = .slice (some ad) n c → 0 < n → row ≠ some ad.block
theorem Sl.blk {n m c : Nat} {W : World} {ad : Addr} {l : List Nat} (h : Sl encY n W (.slice (some ad) m c) l) (hm : 0 < m) : ad.block < n := by
  rcases h with ⟨rfl, a', c', e, _⟩ | ⟨b, off, cap, e, hb, _⟩
  · cases e; omega
  · cases e; exact hb
theorem Sl.grown {A B : World} {sv : Value} {l : List Nat} {row : Option Nat} (h : Sl encY A.heap.size A sv l) (hg : A.grownBy B row) (ho : OffB row sv) : Sl encY B.heap.size B sv l := by
  rcases h with h | ⟨b, off, cap, e, hb, hcap, hc⟩
  · exact .inl h
  · rcases Nat.eq_zero_or_pos l.length with h0 | h0
    · rw [e, h0]
      obtain rfl := List.eq_nil_of_length_eq_zero h0
      exact .inl ⟨rfl, _, _, rfl, fun h => by cases h⟩
    · have hk : B.heap[b]? = A.heap[b]? := hg.block b hb (fun e2 => ho _ _ _ e h0 e2.symm)
      exact .inr ⟨b, off, cap, e, Nat.lt_of_lt_of_le hb hg.size, hcap, fun j x hj => (World.cell?_of_block (a := ⟨b, off + j, none⟩) hk).trans (hc j x hj)⟩

/-- How far the document's Scan has come. -/
structure RS (w : World) (L : List Nat) (p : Nat) (v : Value) (ys : List FX) (wr : World) : Prop where
  le : p ≤ L.length
  sc : ys.map Prod.fst ++ scanL L p = scanL L 0
  en : scanE L p = scanE L 0
  own : wr.ownsRow w.heap.size 87 3 v ys.length (cellsR ys)
  sl : ∀ y ∈ ys, Sl encY wr.heap.size wr y.2 y.1.2.2
  b : Below w.heap.size w wr
  len : ys.length * 7 ≤ p
  off : ∀ y ∈ ys, OffB v.ownBlock y.2
theorem RS.below {w wr W : World} {L : List Nat} {p : Nat} {v : Value} {ys : List FX} (h : RS w L p v ys wr) (hb : Below wr.heap.size wr W) : RS w L p v ys W :=
  ⟨h.le, h.sc, h.en, own_below h.own hb (Nat.le_refl _), fun y hy => ((h.sl y hy).below hb).mono hb.size, h.b.trans (hb.mono h.b.size), h.len, h.off⟩
/-- One frame more. -/
theorem RS.step {w wr W4 W : World} {L : List Nat} {p k s : Nat} {bd : List Nat} {v v' vb : Value} {ys : List FX} (h : RS w L p v ys wr) (hlt : p < L.length) (hz : readE (L.drop p) = 0) (hk : readK (L.drop p) = k) (hs : readN (L.drop p) = s) (hbd : readB (L.drop p) = bd)
    (hb : Below wr.heap.size wr W4) (hSb : Sl encY W4.heap.size W4 vb bd) (hN : NewV wr vb) (hown : W.ownsRow w.heap.size 87 3 v' (ys.length + 1) (cellsR ys ++ [.int .i64 p, .int .i64 k, vb])) (hg : W4.grownBy W v.ownBlock) (hat : v'.ownBlock = v.ownBlock ∨ v'.ownBlock = some W4.heap.size) (hbw : Below w.heap.size w W) :
    RS w L (p + s) v' (ys ++ [((p, k, bd), vb)]) W := by
  have hst := step_le hlt hz
  have hps := readN_pos hz
  rw [hs] at hst hps
  have hoff : ∀ y ∈ ys ++ [(((p, k, bd), vb) : FX)], OffB v.ownBlock y.2 ∧ Sl encY W4.heap.size W4 y.2 y.1.2.2 := by
    intro y hy
    rcases List.mem_append.1 hy with hy | hy
    · exact ⟨h.off y hy, ((h.sl y hy).below hb).mono hb.size⟩
    · simp at hy
      subst hy
      refine ⟨fun ad n c e _ e2 => ?_, hSb⟩
      have h1 := hN ad n c e
      obtain ⟨_, cur, h2⟩ := own_at h.own e2
      have := (Array.getElem?_eq_some_iff.1 h2).1
      omega
  refine ⟨hst.1, ?_, ?_, by rw [cellsR_snoc, List.length_append]; exact hown, fun y hy => ?_, hbw, ?_, fun y hy => ?_⟩
  · rw [← h.sc, scanL_step hlt hz, hk, hs, hbd, List.map_append, List.append_assoc]; rfl
  · rw [← h.en, scanE_step hlt hz, hs]
  · exact (hoff y hy).2.grown hg (hoff y hy).1
  · have := h.len
    simp; omega
  · intro ad n c e h0
    rcases hat with e1 | e1
    · rw [e1]; exact (hoff y hy).1 ad n c e h0
    · rw [e1]
      intro e2
      have h1 := (hoff y hy).2
      rw [e] at h1
      have := h1.blk h0
      simp at e2; omega

set_option maxRecDepth 100000 in
set_option maxHeartbeats 4000000 in
theorem refScan_any (a : Option Addr) (n c : Nat) (L : List Nat) (hL : Bytes L) (w : World) (hS : Sl encY w.heap.size w (.slice a n c) L) :
    Calls Try.prog 58 #[.slice a n c] w fun e w' => ∃ v ys, e = .returned (.tuple #[v, .int .i64 (scanE L 0 : Nat), .int .i64 (scanW L : Nat)]) ∧ w'.ownsRow w.heap.size 87 3 v ys.length (cellsR ys) ∧ ys.map Prod.fst = scanL L 0 ∧ (∀ y ∈ ys, Sl encY w'.heap.size w' y.2 y.1.2.2) ∧ Below w.heap.size w w' := by
  obtain ⟨i1, hi1, hy0, hy1, hy2⟩ := info_parts infoR
  obtain rfl := hS.len
  have hl1 := hL.1
  have HL := Lib.hid hL
  have HS := Lib.hid hS
  have hz := zrefF
  obtain ⟨M, hM⟩ : ∃ M, L.length = M := ⟨_, rfl⟩
  have HM := Lib.hid hM
  rw [hM] at hl1 HS ⊢
  clear hM hL hS
  have HST : Hid (RS w L 0 (.slice (some ⟨w.heap.size, 0, none⟩) 0 0) [] (w.alloc (.cells #[] 87))) := Lib.hid ⟨Nat.zero_le _, rfl, rfl, ownsRow_empty3 w _, (fun y hy => by cases hy), (Below.refl _ _).alloc (Nat.le_refl _) _, Nat.le_refl _, (fun y hy => by cases hy)⟩
  go_enter Try.func58, Try.ntmps58
  go_wp2
  go_loopw [5, 6] (fun v i wr => ∃ p ys, i = .int .i64 (p : Nat) ∧ RS w L p v ys wr) (fun _ i _ => M - (intOf i).toNat)
  case atStart => exact ⟨0, [], rfl, HST.out⟩
  case round =>
    obtain ⟨p, ys, rfl, hR⟩ := hrel
    have hpM : p ≤ M := by have := hR.le; rw [HM.out] at this; exact this
    have HR := Lib.hid hR
    clear hR
    have hSr := (HS.out.below HR.out.b).mono HR.out.b.size
    have HRD := Lib.hid (rread_any _ _ _ p L HL.out (by rw [HM.out]; exact hpM) _ hSr)
    unfold RefTo at HRD
    clear hSr
    by_cases hlt : p < M
    · have hltL : p < L.length := by rw [HM.out]; exact hlt
      have hpi : (p : Int) < M := by omega
      obtain ⟨t, ht⟩ : ∃ t, readE (L.drop p) = t := ⟨_, rfl⟩
      by_cases ht0 : t = 0
      · subst ht0
        obtain ⟨k, hk⟩ : ∃ k, readK (L.drop p) = k := ⟨_, rfl⟩
        obtain ⟨s, hs⟩ : ∃ s, readN (L.drop p) = s := ⟨_, rfl⟩
        obtain ⟨bd, hbd⟩ : ∃ bd, readB (L.drop p) = bd := ⟨_, rfl⟩
        have hst := step_le hltL ht
        rw [hs, HM.out] at hst
        rw [if_pos ht, hk, hs, hbd, ht] at HRD
        have HZ := Lib.hid ht
        have HK := Lib.hid hk
        have HSS := Lib.hid hs
        have HBD := Lib.hid hbd
        clear ht hk hs hbd
        go_wp2_with fail
        refine HRD.out.mono ?_
        rintro e w2 ⟨vb, rfl, hSb, hb2, hN2⟩
        obtain ⟨xa, xc, rfl⟩ := hSb.form
        obtain ⟨q, hq⟩ : ∃ q, bd.length = q := ⟨_, rfl⟩
        rw [hq] at hSb hN2 ⊢
        obtain ⟨W3, hW3⟩ : ∃ W3, w2.alloc (.cells #[.int .i64 p, .int .i64 k, .slice xa q xc] 87) = W3 := ⟨_, rfl⟩
        have b3 : Below w2.heap.size w2 W3 := by rw [← hW3]; exact (Below.refl _ _).alloc (Nat.le_refl _) _
        have k3 : W3.heap[w2.heap.size]? = some (.cells #[.int .i64 p, .int .i64 k, .slice xa q xc] 87 (0, 0)) := by rw [← hW3]; exact World.alloc_heap_new _ _
        have hb03 : Below wr.heap.size wr W3 := hb2.trans (b3.mono hb2.size)
        have HS3 := Lib.hid ((hSb.below b3).mono b3.size)
        have HR3 := Lib.hid (HR.out.below hb03)
        have HB3 := Lib.hid hb03
        have HN2 := Lib.hid hN2
        have HK3 := Lib.hid k3
        have HW3 := Lib.hid hW3
        have hylen := HR.out.len
        obtain ⟨ka, kc, rfl⟩ := own_form HR.out.own
        have hz3 := HR3.out.b.size
        clear hSb hb2 hN2 b3 k3 hb03 hW3 hq HRD HS
        go_upto_region 5 with fail
        rw [HW3.out]
        clear HW3
        obtain ⟨f1, f2, f3, f4, f5, f6⟩ := cell3 HK3.out
        go_wp2_with (at_builtin; refine wpList_append_own_at _ rfl (.tmp 27) (.tmp 29) 90 rfl w.heap.size 87 i1 (.agg #[.int .i64 0, .int .i64 0, .slice none 0 0]) 3 40 Try.underlying90 hi1 hy0 hy1 hy2 rfl (by decide) _ _ _ rfl (HR3.out.own.alloc _) ⟨W3.heap.size, 0, none⟩ 1 1 [.int .i64 p, .int .i64 k, .slice xa q xc] rfl rfl (new_cells3 _ _ _ _ _) (by intro u hu; simp at hu; rcases hu with rfl | rfl | rfl <;> rfl) (by unfold maxLen; omega) (by omega) (by simp; omega) ?_)
        intro v5 w5 hown5 hg5 _ hat5
        have b4 : Below W3.heap.size W3 (W3.alloc (.cells #[.int .i64 p, .int .i64 k, .slice xa q xc] 87)) := (Below.refl _ _).alloc (Nat.le_refl _) _
        have hbw := below_grown2 (HR3.out.own.alloc (.cells #[.int .i64 p, .int .i64 k, .slice xa q xc] 87)) (by simp; omega) (HR3.out.b.trans (b4.mono hz3)) hg5
        have HNX := Lib.hid (HR.out.step hltL HZ.out HK.out HSS.out HBD.out (HB3.out.trans (b4.mono HB3.out.size)) ((HS3.out.below b4).mono b4.size) HN2.out hown5 hg5 (by rw [World.size_alloc]; exact hat5) hbw)
        obtain ⟨va5, vc5, rfl⟩ := own_form hown5
        clear hown5 hg5 hat5 b4 hbw
        go_wp2
        go_roundw
        case rel => exact ⟨p + s, ys ++ [((p, k, bd), .slice xa q xc)], by go_num, HNX.out⟩
        case measure => simp [intOf]; omega
      · rw [if_neg (by rw [ht]; exact ht0), show readK (L.drop p) = 0 from if_neg (by rw [ht]; exact ht0), show readN (L.drop p) = 0 from if_neg (by rw [ht]; exact ht0), show readB (L.drop p) = [] from if_neg (by rw [ht]; exact ht0), ht] at HRD
        have hbadE := scanE_bad (l := L) (a := p) (by rw [ht]; exact ht0)
        have hbadL := scanL_bad (l := L) (a := p) (by rw [ht]; exact ht0)
        have hE0 : scanE L 0 = p := by rw [← HR.out.en, hbadE]
        have hW : scanW L = t := by unfold scanW; rw [hE0, if_neg (by rw [HM.out]; omega), ht]
        have hsc := HR.out.sc
        rw [hbadL, List.append_nil] at hsc
        have HE0 := Lib.hid hE0
        have HW := Lib.hid hW
        have HSC := Lib.hid hsc
        have hti : ((t : Int) != 0) = true := by rw [bne_iff_ne]; omega
        clear ht ht0 hbadE hbadL hE0 hW hsc
        obtain ⟨ka, kc, rfl⟩ := own_form HR.out.own
        go_wp2_with fail
        refine HRD.out.mono ?_
        rintro e w2 ⟨vb, rfl, hSb, hb2, _⟩
        obtain ⟨xa, xc, rfl⟩ := hSb.form
        rw [show ([] : List Nat).length = 0 from rfl]
        have b3 : Below w2.heap.size w2 (w2.alloc (.cells #[.int .i64 0, .int .i64 0, .slice xa 0 xc] 87)) := (Below.refl _ _).alloc (Nat.le_refl _) _
        have HR3 := Lib.hid (HR.out.below (hb2.trans (b3.mono hb2.size)))
        clear hSb hb2 b3 HRD
        go_wp2
        go_ret3
        exact ⟨_, ys, by rw [HE0.out, HW.out]; rfl, HR3.out.own, HSC.out, HR3.out.sl, HR3.out.b⟩
    · obtain rfl : p = M := by omega
      have hendE := scanE_end (l := L) (a := p) (by rw [HM.out]; exact Nat.le_refl _)
      have hendL := scanL_end (l := L) (a := p) (by rw [HM.out]; exact Nat.le_refl _)
      have hE0 : scanE L 0 = p := by rw [← HR.out.en, hendE]
      have hW : scanW L = 0 := by unfold scanW; rw [hE0, if_pos HM.out.symm]
      have hsc := HR.out.sc
      rw [hendL, List.append_nil] at hsc
      have HE0 := Lib.hid hE0
      have HW := Lib.hid hW
      have HSC := Lib.hid hsc
      clear hendE hendL hE0 hW hsc HRD hlt
      obtain ⟨ka, kc, rfl⟩ := own_form HR.out.own
      go_wp2
      go_ret3
      exact ⟨_, ys, by rw [HE0.out, HW.out]; rfl, HR.out.own, HSC.out, HR.out.sl, HR.out.b⟩
end Go.Proofs.Ytfhigngfohfclaa
