/- frame.Scan's parts: slices.Clone of bytes, frames, and the walk that it hands back. -/
import Derived.Test.YtocmfdahnekboaaDoorFrameB
import Derived.Test.YtocmfdahnekboaaDoorRangeR
import Derived.RangeFuncNested
import Derived.RangeFuncBound
import Derived.RangeFuncCalls
import Derived.RangeFuncLeaves
import Derived.Shelf.Abstract
import Derived.Shelf.RegionOpen
import Derived.OwnWalkIn
import Derived.TacticsInMore
import Derived.LoopNIn
import Derived.LoopIn
import Derived.Maps.AppendAt
import Derived.RangeFuncBox
import Derived.Test.YtocmfdahnekboaaDoorSumRef
namespace Go.Proofs.YtocmfdahnekboaaDoor
open Go.RowKit Go.Shelf
set_option linter.unusedVariables false

attribute [local go_sem] Oper.semAt_some

set_option maxHeartbeats 400000 in
theorem cloneY_any (a : Option Addr) (n c : Nat) (l : List Nat) (hl : l.length ≤ 1048576) (w : World) (hS : Sl encY w.heap.size w (.slice a n c) l) :
    Calls Tryd.prog 44 #[.slice a n c] w fun e w' => ∃ v, e = .returned v ∧ w'.ownsRow w.heap.size 5 1 v l.length (l.map encY) ∧ Below w.heap.size w w' := by
  cases a with
  | none =>
    obtain ⟨rfl, rfl, rfl⟩ : l = [] ∧ n = 0 ∧ c = 0 := by
      rcases hS with ⟨rfl, a', c', e, h0⟩ | ⟨b, off, cap, e, _⟩
      · cases e; exact ⟨rfl, rfl, h0 rfl⟩
      · cases e
    have he := fun (w : World) => Lib.run_eql_slice_nil (P := Tryd.prog) (w := w)
    go_enter Tryd.func44, Tryd.ntmps44
    go_wp2
    go_ret
    exact ⟨_, rfl, World.ownsRow_nil _ _ _ _, Below.refl _ _⟩
  | some ad =>
    have hS2 := hS.below ((Below.refl w.heap.size w).alloc (Nat.le_refl _) (.cells #[] 5))
    have HS2 := Lib.hid hS2
    have he := fun (w : World) => Lib.run_eql_slice_nil (P := Tryd.prog) (w := w)
    clear hS hS2
    go_enter Tryd.func44, Tryd.ntmps44
    go_wp2_with (at_builtin; refine wpList_append_bytes _ rfl (.tmp 5) (.tmp 6) rfl w.heap.size _ 0 [] rfl (ownsRow_empty w _) w.heap.size _ l rfl HS2.out (by omega) (by simp) ?_)
    intro v2 w2 hown2 hg2
    have hb2 : Below w.heap.size w w2 := below_grown (ownsRow_empty w 5) (by simp) ((Below.refl _ w).alloc (Nat.le_refl _) _) hg2
    have HO := Lib.hid hown2
    clear hown2 hg2
    go_wp2
    go_ret
    exact ⟨_, rfl, HO.out, hb2⟩

theorem frames_any (a : Option Addr) (n c : Nat) (w : World) :
    Calls Tryd.prog 43 #[.slice a n c] w fun e w' => e = .returned (.func (.func 61) #[] #[.pointer (some ⟨w.heap.size, 0, none⟩)]) ∧ w' = w.alloc (.cells #[.slice a n c] 22) := by
  go_enter Tryd.func43, Tryd.ntmps43
  go_wp2
  go_ret
  exact ⟨rfl, rfl⟩

/-- What is handed to a round: where a frame begins, its kind and body, and the slice of the body. -/
abbrev FX := (Nat × Nat × List Nat) × Value
def encF (x : FX) : Array Value := #[.int .i64 x.1.1, .agg #[.int .i64 x.1.2.1, x.2]]
def RyF (x : FX) (W : World) : Prop := Sl encY W.heap.size W x.2 x.1.2.2
/-- What the rounds keep. -/
def Stay (n0 : Nat) (bs : List Nat) (W W' : World) : Prop := Below n0 W W' ∧ ∀ k ∈ bs, W'.heap[k]? = W.heap[k]?
def Kept (n0 : Nat) (bs : List Nat) (k : Nat) : Prop := k < n0 ∨ k ∈ bs
theorem Stay.refl (n0 : Nat) (bs : List Nat) (W : World) : Stay n0 bs W W := ⟨Below.refl _ _, fun _ _ => rfl⟩
theorem Stay.trans {n0 : Nat} {bs : List Nat} {A B C : World} (h : Stay n0 bs A B) (h' : Stay n0 bs B C) : Stay n0 bs A C := ⟨h.1.trans h'.1, fun k hk => (h'.2 k hk).trans (h.2 k hk)⟩
theorem Stay.below {n0 : Nat} {bs : List Nat} {A B C : World} (h : Stay n0 bs A B) (h' : Below B.heap.size B C) (h0 : n0 ≤ B.heap.size) (hbs : ∀ k ∈ bs, k < B.heap.size) : Stay n0 bs A C :=
  ⟨h.1.trans (h'.mono h0), fun k hk => (h'.block k (hbs k hk)).trans (h.2 k hk)⟩
theorem Stay.at_ {n0 : Nat} {bs : List Nat} {A B : World} (h : Stay n0 bs A B) {k : Nat} (hk : Kept n0 bs k) : B.heap[k]? = A.heap[k]? := by
  rcases hk with h1 | h1
  · exact h.1.block k h1
  · exact h.2 k h1
def KeptV (n0 : Nat) (bs : List Nat) (v : Value) : Prop := ∀ ad n c, v = .slice (some ad) n c → 0 < n → Kept n0 bs ad.block
theorem Stay.sl {n0 : Nat} {bs : List Nat} {A B : World} {v : Value} {l : List Nat} (h : Stay n0 bs A B) (hk : KeptV n0 bs v) (hS : Sl encY A.heap.size A v l) : Sl encY B.heap.size B v l := by
  rcases hS with hS | ⟨b, off, cap, e, hb, hcap, hc⟩
  · exact .inl hS
  · rcases Nat.eq_zero_or_pos l.length with h0 | h0
    · rw [e, h0]
      obtain rfl := List.eq_nil_of_length_eq_zero h0
      exact .inl ⟨rfl, _, _, rfl, fun h => by cases h⟩
    · have hk1 : B.heap[b]? = A.heap[b]? := h.at_ (hk ⟨b, off, none⟩ _ _ e h0)
      exact .inr ⟨b, off, cap, e, Nat.lt_of_lt_of_le hb h.1.size, hcap, fun j x hj => (World.cell?_of_block (a := ⟨b, off + j, none⟩) hk1).trans (hc j x hj)⟩
theorem grown_of_below {A B : World} (h : Below A.heap.size A B) : A.grownBy B none := ⟨h.os, h.tape, h.output, h.size, fun k hk _ => h.block k hk⟩
theorem read_stop (a : Option Addr) (n c : Nat) (l : List Nat) (hl : Bytes l) (t : Nat) (ht : readE l = t) (h0 : t ≠ 0) (w : World) (hS : Sl encY w.heap.size w (.slice a n c) l) :
    Calls Tryd.prog 62 #[.slice a n c] w fun e w' => ∃ v, e = .returned (.tuple #[.agg #[.int .i64 0, v], .int .i64 0, .int .i64 t]) ∧ Sl encY w'.heap.size w' v [] ∧ Below w.heap.size w w' := by
  refine (read_any a n c l hl w hS).mono ?_
  rintro e w' ⟨v, rfl, h1, h2⟩
  have hk : readK l = 0 := if_neg (by rw [ht]; exact h0)
  have hn : readN l = 0 := if_neg (by rw [ht]; exact h0)
  have hb : readB l = [] := if_neg (by rw [ht]; exact h0)
  rw [hb] at h1
  exact ⟨v, by rw [hk, hn, ht]; rfl, h1, h2⟩
theorem read_go (a : Option Addr) (n c : Nat) (l : List Nat) (hl : Bytes l) (k s : Nat) (b : List Nat) (ht : readE l = 0) (hk : readK l = k) (hs : readN l = s) (hb : readB l = b) (w : World) (hS : Sl encY w.heap.size w (.slice a n c) l) :
    Calls Tryd.prog 62 #[.slice a n c] w fun e w' => ∃ v, e = .returned (.tuple #[.agg #[.int .i64 k, v], .int .i64 s, .int .i64 0]) ∧ Sl encY w'.heap.size w' v b ∧ Below w.heap.size w w' := by
  refine (read_any a n c l hl w hS).mono ?_
  rintro e w' ⟨v, rfl, h1, h2⟩
  rw [hb] at h1
  exact ⟨v, by rw [hk, hs, ht]; rfl, h1, h2⟩

set_option maxRecDepth 100000 in
set_option maxHeartbeats 4000000 in
theorem frames1 (Bs n0 : Nat) (bs : List Nat) (L : List Nat) (hL : Bytes L) (a : Option Addr) (N c : Nat) (w : World) (hn0 : n0 ≤ w.heap.size) (hbs : ∀ k ∈ bs, k < w.heap.size) (hBs : Kept n0 bs Bs) (hv : KeptV n0 bs (.slice a N c))
    (hc : w.cell? ⟨Bs, 0, none⟩ = some (.slice a N c)) (hS : Sl encY w.heap.size w (.slice a N c) L) :
    SeqR Fence.wide 2 Tryd.prog 61 #[.pointer (some ⟨Bs, 0, none⟩)] encF n0 0 bs (fun ys => ys.map Prod.fst = scanL L 0) (fun pre => pre.map Prod.fst <+: scanL L 0) RyF w := fun l J Jx W hW hJ hJx _ _ hY h0 => by
  have hz : ∀ (w : World), (zeroValue 66).run Tryd.prog w = .ok (.agg #[.int .i64 0, .slice none 0 0]) w := zframe
  have hBsl : Bs < w.heap.size := by
    rcases hBs with h | h
    · omega
    · exact hbs _ h
  have hcW := (hW.cell (p := ⟨Bs, 0, none⟩) hBsl).trans hc
  have hSW := (hS.below hW).mono hW.size
  have HS := Lib.hid hSW
  obtain rfl := hSW.len
  have HC := Lib.hid hcW
  have HL := Lib.hid hL
  have HY := Lib.hid hY
  have hn0W : n0 ≤ W.heap.size := Nat.le_trans hn0 hW.size
  have hbsW : ∀ k ∈ bs, k < W.heap.size := fun k hk => Nat.lt_of_lt_of_le (hbs k hk) hW.size
  have HBW := Lib.hid hbsW
  have HKV := Lib.hid hv
  have HKB := Lib.hid hBs
  have hL1 := hL.1
  clear hc hS hSW hcW hY hbs hbsW hv hBs hL
  refine callsIn_of_wp Tryd.func61 rfl trivial ?_ rfl
  simp only [Tryd.ntmps61, List.size_toArray, List.length_cons, List.length_nil, Nat.reduceAdd, Nat.reduceSub, Array.replicate_succ, Array.replicate_zero, List.push_toArray, List.append_toArray, List.nil_append, List.cons_append]
  obtain ⟨M, hM⟩ : ∃ M, L.length = M := ⟨_, rfl⟩
  have HM := Lib.hid hM
  rw [hM] at HS HC hL1 HKV
  clear hM
  gi_wp2
  gi_loopw [3] (fun x wr => ∃ (pre : List FX) (p : Nat), x = .int .i64 p ∧ p ≤ M ∧ pre.map Prod.fst ++ scanL L p = scanL L 0 ∧ J pre wr ∧ Stay n0 bs W wr)
    (fun x _ => M - (intOf x).toNat)
  case atStart => exact ⟨[], 0, rfl, Nat.zero_le _, rfl, h0, Stay.refl _ _ _⟩
  case round =>
    obtain ⟨pre, p, rfl, hp, hpre, hj, hst⟩ := hrel
    have hcr : wr.cell? ⟨Bs, 0, none⟩ = some (.slice a M c) := (World.cell?_of_block (hst.at_ HKB.out)).trans HC.out
    have hSr := hst.sl HKV.out HS.out
    by_cases hlt : p < M
    · have hlt' : p < L.length := by rw [HM.out]; exact hlt
      obtain ⟨b, off, rfl⟩ : ∃ b off, a = some ⟨b, off, none⟩ := by
        rcases hSr with ⟨e0, _⟩ | ⟨b, off, cap, e, _⟩
        · rw [e0] at hlt'; simp at hlt'
        · cases e; exact ⟨_, _, rfl⟩
      have hSd := hSr.drop hlt
      have hBd : Bytes (L.drop p) := ⟨by rw [List.length_drop]; have := HL.out.1; omega, fun x hx => HL.out.2 x (List.mem_of_mem_drop hx)⟩
      have hcap := hSr.capb
      have hpi : (p : Int) < M := by omega
      have hp0 : (0 : Int) ≤ p := by omega
      have hpc : p < c := by omega
      have hzr : n0 ≤ wr.heap.size := Nat.le_trans hn0W hst.1.size
      have hbr : ∀ k ∈ bs, k < wr.heap.size := fun k hk => Nat.lt_of_lt_of_le (HBW.out k hk) hst.1.size
      obtain ⟨t, ht⟩ : ∃ t, readE (L.drop p) = t := ⟨_, rfl⟩
      by_cases ht0 : t = 0
      · subst ht0
        have hstep := step_le hlt' ht
        have hsc := scanL_step hlt' ht
        obtain ⟨k, hk⟩ : ∃ k, readK (L.drop p) = k := ⟨_, rfl⟩
        obtain ⟨s, hs⟩ : ∃ s, readN (L.drop p) = s := ⟨_, rfl⟩
        obtain ⟨bd, hbd⟩ : ∃ bd, readB (L.drop p) = bd := ⟨_, rfl⟩
        rw [hk, hs, hbd] at hsc
        rw [hs, HM.out] at hstep
        have HRD := Lib.hid (callsIn_wide.2 (read_go (some ⟨b, off + p, none⟩) (M - p) (c - p) (L.drop p) hBd k s bd ht hk hs hbd wr hSd) : CallsIn Fence.wide 1 _ _ _ _ _)
        have HPR := Lib.hid hpre
        have HSC := Lib.hid hsc
        have HST := Lib.hid hst
        have HBR := Lib.hid hbr
        obtain ⟨hs1, hs2⟩ := hstep
        have HPX : Hid (∀ v, (pre ++ [((p, k, bd), v)]).map Prod.fst <+: scanL L 0) := Lib.hid (fun v => ⟨scanL L (p + s), by rw [← hpre, hsc, List.map_append, List.append_assoc]; rfl⟩)
        have HRND := Lib.hid (fun (w2 : World) (v : Value) (hSv : Sl encY w2.heap.size w2 v bd) (hb2 : Below wr.heap.size wr w2) => HY.out pre ((p, k, bd), v) (w2.alloc (.cells #[.int .i64 k, v] 66)) (hJ.alloc _ (hJ pre wr w2 none hj (grown_of_below hb2) (fun r e => by cases e))) (HPX.out v) (by have := hst.1.size; have := hb2.size; simp; omega)
          (show Sl encY _ _ v bd from (hSv.below ((Below.refl _ w2).alloc (Nat.le_refl _) _)).mono (by simp)))
        clear hpre hsc hst hbr hSd hBd hSr ht hk hs hbd
        gi_wp2_with (refine ⟨trivial, ?_⟩; gi_at_call 62; refine HRD.out.mono ?_; rintro e w2 ⟨v, rfl, hSv, hb2⟩; obtain ⟨va, vc, rfl⟩ := hSv.form; obtain ⟨fn, tmps, assign, body, hy, hR⟩ := HRND.out w2 _ hSv hb2; dsimp only [encF] at hy; have HR := Lib.hid hR; have HSV := Lib.hid hSv; clear hSv hR)
        refine HR.out.mono ?_
        rintro e W4 ⟨hK4, ⟨rfl, hj4, hb4, _, hk4⟩ | ⟨rfl, hjx4⟩⟩
        · have hst4 : Stay n0 bs W W4 := (HST.out.below (hb2.trans ((Below.refl _ w2).alloc hb2.size (.cells #[.int .i64 k, .slice va bd.length vc] 66))) hzr HBR.out).trans ⟨hb4, hk4⟩
          have HST4 := Lib.hid hst4
          clear hst4 hk4 hb4 hK4
          gi_wp2
          go_roundw
          case rel => exact ⟨pre ++ [((p, k, bd), .slice va bd.length vc)], p + s, by go_num, hs1, by rw [List.map_append, List.append_assoc]; rw [HSC.out] at HPR; exact HPR.out, hj4, HST4.out⟩
          case measure => simp [intOf]; omega
        · gi_wp2
          refine bodyPost_ret (results_none rfl _ _ _) rfl ?_
          exact ⟨⟨_, rfl⟩, .inr ⟨_, HPX.out _, hjx4⟩⟩
      · have hrd : CallsIn Fence.wide 1 Tryd.prog 62 _ _ _ := callsIn_wide.2 (read_stop (some ⟨b, off + p, none⟩) (M - p) (c - p) (L.drop p) hBd t ht ht0 wr hSd)
        have HRD := Lib.hid hrd
        clear hrd
        have hsc := scanL_bad (l := L) (a := p) (by rw [ht]; exact ht0)
        have htt : ((t : Int) != 0) = true := by rw [bne_iff_ne]; omega
        have HSC := Lib.hid hsc
        have HPR := Lib.hid hpre
        clear hpre hsc hst hbr hSd hBd hSr ht ht0
        gi_wp2_with fail
        refine ⟨trivial, ?_⟩
        refine HRD.out.mono ?_
        rintro e w2 ⟨v, rfl, hSv, hb2⟩
        obtain ⟨va, vc, rfl⟩ := hSv.form
        have hj2 := (hJ.alloc (.cells #[.int .i64 0, .slice va 0 vc] 66) (hJ pre wr w2 none hj (grown_of_below hb2) (fun r e => by cases e)))
        clear hSv
        rw [show ([] : List Nat).length = 0 from rfl]
        gi_wp2
        refine ⟨fun _ h => (by cases h), ?_⟩
        gi_wp2
        refine bodyPost_ret (results_none rfl _ _ _) rfl ?_
        exact ⟨⟨_, rfl⟩, .inl ⟨pre, by rw [← HPR.out, HSC.out, List.append_nil], hj2⟩⟩
    · obtain rfl : p = M := by omega
      have HSC : Hid (scanL L p = []) := Lib.hid (scanL_end (by rw [HM.out]; exact Nat.le_refl _))
      have HPR := Lib.hid hpre
      clear hpre hst hSr
      gi_wp2
      go_end0
      exact ⟨⟨_, rfl⟩, .inl ⟨pre, by rw [← HPR.out, HSC.out, List.append_nil], hj⟩⟩
end Go.Proofs.YtocmfdahnekboaaDoor

/- The contracts of frame.Scan and frame.End. -/
namespace Go.Proofs.YtocmfdahnekboaaDoor
open Go.RowKit Go.Shelf
set_option linter.unusedVariables false

attribute [local go_sem] Oper.semAt_some

theorem scan_bound (L : List Nat) : ∀ (n a : Nat), L.length - a ≤ n → ∀ x ∈ scanL L a, a ≤ x.1 ∧ x.1 + (x.2.2.length + 7) ≤ L.length
  | 0, a, h, x, hx => by rw [scanL_end (by omega)] at hx; cases hx
  | n + 1, a, h, x, hx => by
    by_cases hlt : a < L.length
    · by_cases hz : readE (L.drop a) = 0
      · have hs := step_le hlt hz
        have hp := readN_pos hz
        rw [scanL_step hlt hz] at hx
        rcases List.mem_cons.1 hx with rfl | hx
        · exact ⟨Nat.le_refl _, by show a + ((readB (L.drop a)).length + 7) ≤ _; omega⟩
        · have := scan_bound L n (a + readN (L.drop a)) (by omega) x hx
          omega
      · rw [scanL_bad hz] at hx; cases hx
    · rw [scanL_end (by omega)] at hx; cases hx

/-- Where the last of some frames ends. -/
def endOf (ys : List (Nat × Nat × List Nat)) : Nat := (ys.getLast?.map fun x => x.1 + (x.2.2.length + 7)).getD 0
theorem endOf_snoc (ys : List (Nat × Nat × List Nat)) (x : Nat × Nat × List Nat) : endOf (ys ++ [x]) = x.1 + (x.2.2.length + 7) := by
  unfold endOf; simp
theorem endOf_scan (L : List Nat) : endOf (scanL L 0) = scanE L 0 := (scan_last L L.length 0 (by omega) (Nat.zero_le _)).symm

set_option maxHeartbeats 400000 in
theorem scan_any (a : Option Addr) (n c : Nat) (l : List Nat) (hl : l.length ≤ 1048576) (w : World) (hS : Sl encY w.heap.size w (.slice a n c) l) :
    Calls Tryd.prog 25 #[.slice a n c] w fun e w' => ∃ Bs g va vc, e = .returned (.func (.func 61) #[] #[.pointer (some ⟨Bs, 0, none⟩)]) ∧ w.heap.size ≤ Bs ∧ Bs < w'.heap.size ∧ w.heap.size ≤ g ∧ g < w'.heap.size ∧
      w'.cell? ⟨Bs, 0, none⟩ = some (.slice va l.length vc) ∧ Sl encY w'.heap.size w' (.slice va l.length vc) l ∧ KeptV 0 [g] (.slice va l.length vc) ∧ Below w.heap.size w w' := by
  have HC := Lib.hid (cloneY_any a n c l hl w hS)
  clear hS
  obtain ⟨m, hm⟩ : ∃ m, l.length = m := ⟨_, rfl⟩
  rw [hm] at HC ⊢
  have HM := Lib.hid hm
  clear hm
  go_enter Tryd.func25, Tryd.ntmps25
  go_wp2_with (go_at_call 44; refine HC.out.mono ?_; rintro e w1 ⟨v, rfl, hown, hb1⟩; have hS1 := Sl.of_owns (xs := l) (by rw [HM.out]; exact hown); obtain ⟨va, vc, rfl⟩ := hS1.form; rw [HM.out] at hS1 hown ⊢; have HO := Lib.hid hown; have HS1 := Lib.hid hS1; clear hown hS1)
  refine (frames_any _ _ _ _).mono ?_
  rintro e w' ⟨rfl, rfl⟩
  have ha : Below w1.heap.size w1 (w1.alloc (.cells #[.slice va m vc] 22)) := (Below.refl _ _).alloc (Nat.le_refl _) _
  have hz := hb1.size
  have hfin : ∃ g, w.heap.size ≤ g ∧ g < w1.heap.size + 1 ∧ KeptV 0 [g] (.slice va m vc) := by
    rcases HO.out.2 with ⟨e, _⟩ | ⟨g, cap, cur, e, hg, hgb, _⟩
    · cases e
      exact ⟨w1.heap.size, hz, by omega, fun ad n c h => by cases h⟩
    · cases e
      exact ⟨g, hg, by have := (Array.getElem?_eq_some_iff.1 hgb).1; omega, fun ad n c h _ => by cases h; exact .inr (by simp)⟩
  obtain ⟨g, g1, g2, g3⟩ := hfin
  have HF : Hid (w.heap.size ≤ w1.heap.size ∧ w1.heap.size < (w1.alloc (.cells #[.slice va m vc] 22)).heap.size ∧ w.heap.size ≤ g ∧ g < (w1.alloc (.cells #[.slice va m vc] 22)).heap.size ∧
      (w1.alloc (.cells #[.slice va m vc] 22)).cell? ⟨w1.heap.size, 0, none⟩ = some (.slice va m vc) ∧ Sl encY (w1.alloc (.cells #[.slice va m vc] 22)).heap.size (w1.alloc (.cells #[.slice va m vc] 22)) (.slice va m vc) l ∧ KeptV 0 [g] (.slice va m vc) ∧ Below w.heap.size w (w1.alloc (.cells #[.slice va m vc] 22))) :=
    Lib.hid ⟨hz, by simp, g1, by simp; omega, cell_new_row _ _ _ 0, (HS1.out.below ha).mono ha.size, g3, hb1.trans (ha.mono hz)⟩
  clear ha hz g1 g2 g3 hb1
  go_wp2
  go_ret
  exact ⟨_, g, va, vc, rfl, HF.out⟩
end Go.Proofs.YtocmfdahnekboaaDoor

/- The contract of frame.End. -/
namespace Go.Proofs.YtocmfdahnekboaaDoor
open Go.RowKit Go.Shelf
set_option linter.unusedVariables false

attribute [local go_sem] Oper.semAt_some

/-- A frame that lies in memory. -/
def FrameAt (W : World) (b : Nat) (x : FX) : Prop := W.heap[b]? = some (.cells #[.int .i64 x.1.2.1, x.2] 66 (0, 0))
theorem FrameAt.putObj {W : World} {b l : Nat} {x : FX} {o : Obj} {r : Loop} (h : FrameAt W b x) (hl : W.heap[l]? = some (.loop r)) : FrameAt (W.putObj l o) b x := by
  have hne : b ≠ l := by
    rintro rfl
    unfold FrameAt at h
    rw [h] at hl
    cases hl
  exact (World.putObj_heap_other hne).trans h

def EndI (w : World) (pre : List FX) (W : World) : Prop := Boxed W w.heap.size 3 (.int .i64 (endOf (pre.map Prod.fst) : Nat)) ∧ Below w.heap.size w W
theorem endI_own (w : World) {B : Nat} (hB : w.heap.size < B) : OwnFrom B (EndI w) := fun s W W' row ⟨h1, h2⟩ hg hr =>
  ⟨h1.kept hg (fun e => by have := (hr _ e.symm).1; omega), ownFrom_below (β := Unit) (Nat.le_refl _) (show w.heap.size ≤ B by omega) () W W' row h2 hg hr⟩
def endA (a : Option Addr) (n c : Nat) (w : World) (x : FX) (a' : Act) (W : World) : Prop :=
  ∃ Bx va vc, w.heap.size + 2 ≤ Bx ∧ x.2 = .slice va x.1.2.2.length vc ∧ FrameAt W Bx x ∧ a' = { tmps := #[.slice a n c, undef, .int .i64 0, .int .i64 0, .pointer (some ⟨w.heap.size, 0, none⟩), .int .i64 x.1.1, .pointer (some ⟨Bx, 0, none⟩), undef, undef, undef, .slice a n c, .func (.func 61) #[] #[.pointer (some ⟨w.heap.size + 1, 0, none⟩)], .int .i64 x.1.1, .agg #[.int .i64 x.1.2.1, x.2], undef, undef, undef, undef, undef, undef, undef, undef, undef, undef, undef, undef, undef, undef, undef, undef, undef, undef, undef, undef, undef], defers := [] }

end Go.Proofs.YtocmfdahnekboaaDoor
namespace Go.Proofs.YtocmfdahnekboaaDoor
open Go.RowKit Go.Shelf SumM
set_option linter.unusedVariables false
attribute [local go_sem] Oper.semAt_some
theorem wpIn_act {F : Fence} {n : Nat} {P : Program} {c : Code} {Q : Exit → Act → World → Prop} {a : Act} {w : World} (h : ∀ A, A = a → c.wpIn F n P Q A w) : c.wpIn F n P Q a w := h a rfl

def fb : List Nat := frameL 7 [97, 98]
theorem fb_len : fb.length = 9 := frame_len 7 [97, 98]
theorem fb_bytes : Bytes fb := ⟨by rw [fb_len]; decide, frame_bytes (by decide) (by decide) (by decide)⟩
theorem fb_5 : fb.take 5 = [2, 0, 7, 97, 98] := rfl
theorem fb_read (m : List Nat) : readE (fb ++ m) = 0 ∧ readK (fb ++ m) = 7 ∧ readB (fb ++ m) = [97, 98] ∧ readN (fb ++ m) = 9 := read_frame 7 [97, 98] m (by decide) (by decide)
theorem fb_8 : readE (fb.take 8) = 21 := read_cut 7 [97, 98] 8 (by decide) (by decide)
theorem fb_drop (m : List Nat) : (fb ++ m).drop 9 = m := by rw [show (9 : Nat) = fb.length from fb_len.symm, List.drop_left]
theorem fb_scan : scanL (fb ++ fb) 0 = [(0, 7, [97, 98]), (9, 7, [97, 98])] := by
  have hl : (fb ++ fb).length = 18 := by rw [List.length_append, fb_len]
  obtain ⟨e, k, b, n⟩ := fb_read fb
  obtain ⟨e2, k2, b2, n2⟩ := fb_read []
  rw [List.append_nil] at e2 k2 b2 n2
  rw [scanL_step (a := 0) (by rw [hl]; decide) (by rw [List.drop_zero]; exact e), List.drop_zero, k, b, n, Nat.zero_add, scanL_step (a := 9) (by rw [hl]; decide) (by rw [fb_drop]; exact e2), fb_drop, k2, b2, n2, scanL_end (by rw [hl]; decide)]
theorem fb_end : scanE (fb ++ [1]) 0 = 9 ∧ scanW (fb ++ [1]) = 21 := by
  have hl : (fb ++ [1]).length = 10 := by rw [List.length_append, fb_len]; rfl
  obtain ⟨e, k, b, n⟩ := fb_read [1]
  have h1 : scanE (fb ++ [1]) 0 = 9 := by
    rw [scanE_step (a := 0) (by rw [hl]; decide) (by rw [List.drop_zero]; exact e), List.drop_zero, n, Nat.zero_add, scanE_bad (by rw [fb_drop]; decide)]
  refine ⟨h1, ?_⟩
  unfold scanW
  rw [h1, hl, if_neg (by decide), fb_drop]
  decide
theorem fb1_bytes : Bytes (fb ++ [1]) := ⟨by rw [List.length_append, fb_len]; decide, fun x hx => by rcases List.mem_append.1 hx with h | h; exact fb_bytes.2 x h; simp at h; omega⟩
theorem fb1_len : (fb ++ [1]).length = 10 := by rw [List.length_append, fb_len]; rfl
theorem fbfb_len : (fb ++ fb).length = 18 := by rw [List.length_append, fb_len]
theorem fb8_bytes : Bytes (fb.take 8) := ⟨by rw [List.length_take, fb_len]; decide, fun x hx => fb_bytes.2 x (List.mem_of_mem_take hx)⟩
theorem fbfb_bytes : Bytes (fb ++ fb) := ⟨by rw [List.length_append, fb_len]; decide, fun x hx => by rcases List.mem_append.1 hx with h | h <;> exact fb_bytes.2 x h⟩
theorem write_fb : writeE 7 [97, 98] = 0 ∧ writeL 7 [97, 98] = fb := ⟨by decide, rfl⟩

theorem two_cases {A B : Nat × Nat × List Nat} {pre : List FX} {x : FX} (h : (pre ++ [x]).map Prod.fst <+: [A, B]) : (pre = [] ∧ x.1 = A) ∨ (∃ y, pre = [y] ∧ y.1 = A ∧ x.1 = B) := by
  match pre, h with
  | [], h => exact .inl ⟨rfl, by simpa using h⟩
  | [y], h => exact .inr ⟨y, rfl, by simpa using h⟩
  | y :: z :: t, h => have := h.length_le; simp at this
def cntF (pre : List FX) : Nat := (pre.map fun x => x.1.1 + x.1.2.1).sum
def AlI (Bk : Nat) (w0 : World) (pre : List FX) (W : World) : Prop := Boxed W Bk 3 (.int .i64 (cntF pre : Nat)) ∧ Below Bk w0 W
theorem alI_own {Bk : Nat} {w0 : World} {B : Nat} (h0 : Bk ≤ w0.heap.size) (hB : Bk < B) : OwnFrom B (AlI Bk w0) := fun s W W' row ⟨h1, h2⟩ hg hr =>
  ⟨h1.kept hg (fun e => by have := (hr _ e.symm).1; omega), ownFrom_below (β := Unit) h0 (show Bk ≤ B by omega) () W W' row h2 hg hr⟩
def alA (A : Act) (z : Nat) (x : FX) (a' : Act) (W : World) : Prop :=
  ∃ Bx va vc, z ≤ Bx ∧ x.2 = .slice va x.1.2.2.length vc ∧ FrameAt W Bx x ∧ a' = { tmps := (((A.tmps.setIfInBounds 55 (.int .i64 x.1.1)).setIfInBounds 56 (.agg #[.int .i64 x.1.2.1, x.2])).setIfInBounds 10 (.int .i64 x.1.1)).setIfInBounds 11 (.pointer (some ⟨Bx, 0, none⟩)), defers := [] }

end Go.Proofs.YtocmfdahnekboaaDoor