/- The contract of the document's own Read for layer 6. -/
import Derived.Test.YtocmfdahnekboaaDoorFrameB
import Derived.Test.YtocmfdahnekboaaDoorRefF
import Derived.RegionTactic
import Derived.BigRegion
import Derived.Test.YtocmfdahnekboaaDoorFrameJ
namespace Go.Proofs.YtocmfdahnekboaaDoor
open Go.RowKit SumM
set_option linter.unusedVariables false

/-- What was made behind a world. -/
def NewV (w : World) (v : Value) : Prop := ∀ ad n c, v = .slice (some ad) n c → w.heap.size ≤ ad.block
theorem NewV.nil (w : World) : NewV w (.slice none 0 0) := fun ad n c h => by cases h
theorem NewV.of_own {w W : World} {e s n : Nat} {v : Value} {xs : List Value} (h : W.ownsRow w.heap.size e s v n xs) : NewV w v := fun ad m c hv => by
  rcases h.2 with ⟨e0, _⟩ | ⟨g, cap, cur, e0, hg, _⟩
  · rw [hv] at e0; cases e0
  · rw [hv] at e0; cases e0; exact hg
theorem NewV.mono {w W : World} {v : Value} (h : NewV W v) (hs : w.heap.size ≤ W.heap.size) : NewV w v := fun ad n c e => Nat.le_trans hs (h ad n c e)
set_option maxRecDepth 100000 in
set_option maxHeartbeats 1000000 in
theorem refOpen_new (a : Option Addr) (n c : Nat) (l : List Nat) (hl : Bytes l) (w : World) (hS : Sl encY w.heap.size w (.slice a n c) l) :
    Calls Tryd.prog 41 #[.slice a n c] w fun e w' => ∃ v, e = .returned (.tuple #[v, .bool (openL l).isSome]) ∧ Sl encY w'.heap.size w' v ((openL l).getD []) ∧ Below w.heap.size w w' ∧ NewV w v := by
  obtain rfl := hS.len
  by_cases h4 : l.length < 4
  · rw [show openL l = none from if_pos h4]
    obtain ⟨hl1, _⟩ := hl
    obtain ⟨n, hn⟩ : ∃ n, l.length = n := ⟨_, rfl⟩
    rw [hn] at h4 hl1 ⊢
    clear hn hS
    go_enter Tryd.func41, Tryd.ntmps41
    go_wp2
    go_ret2
    exact ⟨_, rfl, Sl.nil _ _ _, Below.refl _ _, NewV.nil _⟩
  · obtain ⟨b, off, rfl, hb, hcap⟩ : ∃ b off, a = some ⟨b, off, none⟩ ∧ b < w.heap.size ∧ l.length ≤ c := by
      rcases hS with ⟨rfl, _⟩ | ⟨b, off, cap, e, hb, hcap, _⟩
      · simp at h4
      · cases e; exact ⟨b, off, rfl, hb, hcap⟩
    have hT := hS.cut (k := l.length - 4) (by omega) c (by omega)
    have hlt : Bytes (l.take (l.length - 4)) := ⟨by have := hl.1; simp; omega, fun x hx => hl.2 x (List.mem_of_mem_take hx)⟩
    have hlen : (l.take (l.length - 4)).length = l.length - 4 := by simp
    have hop : openL l = if sealL (l.take (l.length - 4)) = l then some (l.take (l.length - 4)) else none := if_neg h4
    obtain ⟨t, ht⟩ : ∃ t, l.take (l.length - 4) = t := ⟨_, rfl⟩
    rw [ht] at hT hlt hlen hop
    have HSE := Lib.hid (refSeal_any _ _ _ t hlt w hT)
    have HS := Lib.hid hS
    have HO := Lib.hid hop
    have HB := Lib.hid hl
    have hl1 := hl.1
    have HT := Lib.hid hT
    obtain ⟨n, hn⟩ : ∃ n, l.length = n := ⟨_, rfl⟩
    obtain ⟨m, hm⟩ : ∃ m, n - 4 = m := ⟨_, rfl⟩
    have hnm : n = m + 4 := by omega
    rw [hn] at h4 hlen hcap hl1 HSE HS HT ⊢
    rw [hm] at hlen HSE HT
    have hsub : ((n : Int) - 4) = (m : Int) := by omega
    have HM := Lib.hid hnm
    have HTL := Lib.hid hlen
    have HLT := Lib.hid hlt
    have hmc : m ≤ c := by omega
    have hml : m ≤ 1048576 := by omega
    clear ht hop hS hT hlt hl hn hm hnm hlen
    go_enter Tryd.func41, Tryd.ntmps41
    go_wp2_with (go_at_call 55; refine HSE.out.mono ?_; rintro e w1 ⟨v, rfl, hown, hb1⟩)
    have hSv := Sl.of_owns hown
    have hsl : (sealL t).length = m + 4 := by rw [seal_len, HTL.out]
    have hbb : Bytes (sealL t) := ⟨by rw [hsl]; have := HM.out; omega, seal_bytes HLT.out.2⟩
    obtain ⟨g, cap, rfl⟩ : ∃ g cap, v = .slice (some ⟨g, 0, none⟩) (m + 4) cap := by
      rcases hown.2 with ⟨_, e⟩ | ⟨g, cap, cur, e, _⟩
      · rw [hsl] at e; omega
      · rw [hsl] at e; exact ⟨g, cap, e⟩
    have HST := Lib.hid (HS.out.below hb1)
    have HEQ := Lib.hid (sameY_any _ _ _ _ _ _ (sealL t) l w1 hbb.1 HB.out.1 hSv (HST.out.mono hb1.size))
    clear hbb hsl hSv hown
    by_cases heq : sealL t = l
    · rw [show decide (sealL t = l) = true from decide_eq_true heq] at HEQ
      have HR : Hid (openL l = some t) := Lib.hid (by rw [HO.out, if_pos heq])
      clear heq
      go_wp2_with (first | (go_at_call 54; refine HEQ.out.mono ?_; rintro e w2 ⟨rfl, hb2⟩; have hb02 := hb1.trans (hb2.mono hb1.size); have HT2 := Lib.hid ((HT.out.below hb02).mono hb02.size)) | (go_at_call 56; refine (copyY_any _ _ _ t HLT.out.1 _ HT2.out).mono ?_; rintro e w3 ⟨v3, rfl, hown3, hb3⟩; have H3 := Lib.hid (Sl.of_owns hown3); have HN3 := Lib.hid (NewV.of_own hown3); clear hown3))
      go_ret2
      exact ⟨_, by rw [HR.out]; rfl, by rw [HR.out]; exact H3.out, hb02.trans (hb3.mono hb02.size), HN3.out.mono hb02.size⟩
    · rw [show decide (sealL t = l) = false from decide_eq_false heq] at HEQ
      have HR : Hid (openL l = none) := Lib.hid (by rw [HO.out, if_neg heq])
      clear heq
      go_wp2_with (go_at_call 54; refine HEQ.out.mono ?_; rintro e w2 ⟨rfl, hb2⟩)
      go_ret2
      exact ⟨_, by rw [HR.out]; rfl, by rw [HR.out]; exact Sl.nil _ _ _, hb1.trans (hb2.mono hb1.size), NewV.nil _⟩

/-- What the document's Read tells of the bytes from a place on. -/
def RefTo (w : World) (l : List Nat) (p : Nat) (e : Ending) (w' : World) : Prop :=
  ∃ v, e = .returned (.tuple #[.agg #[.int .i64 (if readE (l.drop p) = 0 then p else 0 : Nat), .int .i64 (readK (l.drop p)), v], .int .i64 (readN (l.drop p)), .int .i64 (readE (l.drop p))]) ∧ Sl encY w'.heap.size w' v (readB (l.drop p)) ∧ Below w.heap.size w w' ∧ NewV w v
theorem refTo_bad {w w' : World} {l : List Nat} {p n : Nat} (h : readE (l.drop p) = n) (h0 : n ≠ 0) (hb : Below w.heap.size w w') : RefTo w l p (.returned (.tuple #[.agg #[.int .i64 0, .int .i64 0, .slice none 0 0], .int .i64 0, .int .i64 n])) w' := by
  refine ⟨.slice none 0 0, ?_, ?_, hb, NewV.nil _⟩
  · rw [if_neg (by rw [h]; exact h0), h, show readK (l.drop p) = 0 from if_neg (by rw [h]; exact h0), show readN (l.drop p) = 0 from if_neg (by rw [h]; exact h0)]; rfl
  · rw [show readB (l.drop p) = [] from if_neg (by rw [h]; exact h0)]; exact Sl.nil _ _ _
theorem zrefF (w : World) : (zeroValue 33).run Tryd.prog w = .ok (.agg #[.int .i64 0, .int .i64 0, .slice none 0 0]) w := by kernel_rfl
theorem ref_res (tmps : Array Value) (w : World) (b : Nat) (k u v n e : Value) (fr : Nat × Nat) (hp : tmps.getD 4 undef = .pointer (some ⟨b, 0, none⟩)) (h3 : tmps.getD 5 undef = n) (h4 : tmps.getD 6 undef = e)
    (hg : w.heap[b]? = some (.cells #[k, u, v] 33 fr)) : (results Tryd.f23 tmps).run Tryd.prog w = .ok (.tuple #[.agg #[k, u, v], n, e]) w := by
  have hp' : tmps[4]?.getD undef = .pointer (some ⟨b, 0, none⟩) := by simpa using hp
  have h3' : tmps[5]?.getD undef = n := by simpa using h3
  have h4' : tmps[6]?.getD undef = e := by simpa using h4
  have k1 := run_loadVar_row (P := Tryd.prog) w b 33 33 #[k, u, v] fr _ hg Tryd.underlying33 rfl (by kernel_rfl)
  simp [results, hp', h3', h4', asAddr, k1]
theorem heap_set3 {W : World} {b : Nat} {t : TypeId} {x y z k u v : Value} (h : W.heap[b]? = some (.cells #[x, y, z] t (0, 0))) : (((W.setCell ⟨b, 0, none⟩ k).setCell ⟨b, 1, none⟩ u).setCell ⟨b, 2, none⟩ v).heap[b]? = some (.cells #[k, u, v] t (0, 0)) :=
  heap_setCell_same _ b 2 _ t v (heap_setCell_same _ b 1 _ t u (heap_setCell_same W b 0 _ t k h))
theorem below_set3 {B : Nat} {w W : World} {b : Nat} {k u v : Value} (h : Below B w W) (hb : B ≤ b) : Below B w (((W.setCell ⟨b, 0, none⟩ k).setCell ⟨b, 1, none⟩ u).setCell ⟨b, 2, none⟩ v) := ((h.setCell (p := ⟨b, 0, none⟩) hb _).setCell (p := ⟨b, 1, none⟩) hb _).setCell (p := ⟨b, 2, none⟩) hb _
theorem cell3 {W : World} {b : Nat} {t : TypeId} {x y z : Value} (h : W.heap[b]? = some (.cells #[x, y, z] t (0, 0))) : W.cell? ⟨b, 0, none⟩ = some x ∧ W.cell? ⟨b, 1, none⟩ = some y ∧ W.cell? ⟨b, 2, none⟩ = some z ∧ W.frozen? ⟨b, 0, none⟩ = false ∧ W.frozen? ⟨b, 1, none⟩ = false ∧ W.frozen? ⟨b, 2, none⟩ = false := by
  refine ⟨?_, ?_, ?_, ?_, ?_, ?_⟩ <;> simp [World.cell?, World.frozen?, h]
abbrev refNew (w : World) : World := w.alloc (.cells #[.int .i64 0, .int .i64 0, .slice none 0 0] 33)
theorem refNew_at (w : World) : (refNew w).heap[w.heap.size]? = some (.cells #[.int .i64 0, .int .i64 0, .slice none 0 0] 33 (0, 0)) := World.alloc_heap_new w _
theorem refNew_below (w : World) : Below w.heap.size w (refNew w) := (Below.refl _ _).alloc (Nat.le_refl _) _

set_option maxRecDepth 100000 in
set_option maxHeartbeats 1000000 in
theorem rread_short (a : Option Addr) (n c p : Nat) (l : List Nat) (hl : Bytes l) (hp : p ≤ l.length) (w : World) (hS : Sl encY w.heap.size w (.slice a n c) l) (h : (l.drop p).length < 2) :
    Calls Tryd.prog 23 #[.slice a n c, .int .i64 p] w (RefTo w l p) := by
  have hz := zrefF
  obtain rfl := hS.len
  have HE : Hid (readE (l.drop p) = 21) := Lib.hid (if_pos h)
  rw [List.length_drop] at h
  have hl1 := hl.1
  obtain ⟨n, hn⟩ : ∃ n, l.length = n := ⟨_, rfl⟩
  rw [hn] at h hp hl1 ⊢
  clear hn hS hl
  obtain ⟨d, hd⟩ : ∃ d, n - p = d := ⟨_, rfl⟩
  have hdi : (n : Int) - (p : Int) = (d : Int) := by omega
  have hd2 : d < 2 := by omega
  clear hd h
  go_enter Tryd.func23, Tryd.ntmps23
  go_wp2
  refine bodyPost_ret (ref_res _ _ w.heap.size _ _ _ _ _ (0, 0) rfl rfl rfl (World.alloc_heap_new w _)) rfl (refTo_bad HE.out (by decide) ?_)
  exact ((Below.refl _ _).alloc (Nat.le_refl _) _)
set_option maxRecDepth 100000 in
set_option maxHeartbeats 2000000 in
theorem rread_long (b off c p : Nat) (l : List Nat) (hl : Bytes l) (hp : p ≤ l.length) (w : World) (hS : Sl encY w.heap.size w (.slice (some ⟨b, off, none⟩) l.length c) l) (h : 2 ≤ (l.drop p).length) (h2 : 4096 < lenOf (l.drop p)) :
    Calls Tryd.prog 23 #[.slice (some ⟨b, off, none⟩) l.length c, .int .i64 p] w (RefTo w l p) := by
  have hz := zrefF
  have HE : Hid (readE (l.drop p) = 2) := Lib.hid (by unfold readE; rw [if_neg (by omega), if_pos h2])
  have LN : 2 ≤ (l.drop p).length := h
  have hdl : (l.drop p).length = l.length - p := List.length_drop
  obtain ⟨x, hx⟩ : ∃ x, (l.drop p)[0]? = some x := ⟨_, List.getElem?_eq_getElem (by omega)⟩
  obtain ⟨y, hy⟩ : ∃ y, (l.drop p)[1]? = some y := ⟨_, List.getElem?_eq_getElem (by omega)⟩
  have hle : lenOf (l.drop p) = x + 256 * y := by unfold lenOf; simp [List.getD, hx, hy]
  rw [List.getElem?_drop] at hx hy
  have hxb := hl.2 x (List.mem_of_getElem? hx)
  have hyb := hl.2 y (List.mem_of_getElem? hy)
  obtain ⟨b0, o0, e0, hb0, hc0⟩ := hS.at_ hx
  obtain ⟨b1, o1, e1, hb1, hc1⟩ := hS.at_ hy
  cases e0; cases e1
  have k0 : w.cell? ⟨b, off + p, none⟩ = some (.int .u8 (x : Int)) := hc0
  have k1 : w.cell? ⟨b, off + (p + 1), none⟩ = some (.int .u8 (y : Int)) := hc1
  obtain ⟨q, hq⟩ : ∃ q, lenOf (l.drop p) = q := ⟨_, rfl⟩
  rw [hq] at h2 hle
  have hqi : (x : Int) + 256 * (y : Int) = (q : Int) := by omega
  have LNN := LN
  have hl1 := hl.1
  have hcap := hS.capb
  obtain ⟨n, hn⟩ : ∃ n, l.length = n := ⟨_, rfl⟩
  rw [hdl] at h LN
  rw [hn] at h hl1 hcap LN hp ⊢
  obtain ⟨d, hd⟩ : ∃ d, n - p = d := ⟨_, rfl⟩
  rw [hd] at h LN
  have hdi : (n : Int) - (p : Int) = (d : Int) := by omega
  have g1 : (p : Int) < n := by omega
  have g2 : (0 : Int) ≤ p := by omega
  have g3 : (p : Int) + 1 < n := by omega
  have g4 : p < n := by omega
  have g5 : p + 1 < n := by omega
  have hdn : p + d = n := by omega
  clear hn hS hx hy hl hle hq hc0 hc1 hdl hd
  go_enter Tryd.func23, Tryd.ntmps23
  go_wp2
  go_quiet (fail)
  have hR : (((refNew w).drewN nq)).heap[w.heap.size]? = some (.cells #[.int .i64 0, .int .i64 0, .slice none 0 0] 33 (0, 0)) := refNew_at w
  have hBW : Below w.heap.size w ((refNew w).drewN nq) := Below.drewN_r (refNew_below w) nq
  go_wp2
  refine bodyPost_ret (ref_res _ _ w.heap.size _ _ _ _ _ (0, 0) rfl rfl rfl (heap_set3 hR)) rfl (refTo_bad HE.out (by decide) (below_set3 hBW (Nat.le_refl _)))
set_option maxRecDepth 100000 in
set_option maxHeartbeats 2000000 in
theorem rread_cutoff (b off c p : Nat) (l : List Nat) (hl : Bytes l) (hp : p ≤ l.length) (w : World) (hS : Sl encY w.heap.size w (.slice (some ⟨b, off, none⟩) l.length c) l) (h : 2 ≤ (l.drop p).length) (h2 : ¬ 4096 < lenOf (l.drop p)) (h3 : (l.drop p).length < lenOf (l.drop p) + 7) :
    Calls Tryd.prog 23 #[.slice (some ⟨b, off, none⟩) l.length c, .int .i64 p] w (RefTo w l p) := by
  have hz := zrefF
  have HE : Hid (readE (l.drop p) = 21) := Lib.hid (by unfold readE; rw [if_neg (by omega), if_neg h2, if_pos h3])
  have hdl : (l.drop p).length = l.length - p := List.length_drop
  obtain ⟨x, hx⟩ : ∃ x, (l.drop p)[0]? = some x := ⟨_, List.getElem?_eq_getElem (by omega)⟩
  obtain ⟨y, hy⟩ : ∃ y, (l.drop p)[1]? = some y := ⟨_, List.getElem?_eq_getElem (by omega)⟩
  have hle : lenOf (l.drop p) = x + 256 * y := by unfold lenOf; simp [List.getD, hx, hy]
  rw [List.getElem?_drop] at hx hy
  have hxb := hl.2 x (List.mem_of_getElem? hx)
  have hyb := hl.2 y (List.mem_of_getElem? hy)
  obtain ⟨b0, o0, e0, hb0, hc0⟩ := hS.at_ hx
  obtain ⟨b1, o1, e1, hb1, hc1⟩ := hS.at_ hy
  cases e0; cases e1
  have k0 : w.cell? ⟨b, off + p, none⟩ = some (.int .u8 (x : Int)) := hc0
  have k1 : w.cell? ⟨b, off + (p + 1), none⟩ = some (.int .u8 (y : Int)) := hc1
  obtain ⟨q, hq⟩ : ∃ q, lenOf (l.drop p) = q := ⟨_, rfl⟩
  rw [hq] at h2 hle
  have hqi : (x : Int) + 256 * (y : Int) = (q : Int) := by omega
  obtain ⟨s, hs⟩ : ∃ s, q + 7 = s := ⟨_, rfl⟩
  rw [hq, hs] at h3
  have LN := h3
  have hs7 : (q : Int) + 7 = (s : Int) := by omega
  clear hs h3
  have hl1 := hl.1
  have hcap := hS.capb
  obtain ⟨n, hn⟩ : ∃ n, l.length = n := ⟨_, rfl⟩
  rw [hdl] at h LN
  rw [hn] at h hl1 hcap LN hp ⊢
  obtain ⟨d, hd⟩ : ∃ d, n - p = d := ⟨_, rfl⟩
  rw [hd] at h LN
  have hdi : (n : Int) - (p : Int) = (d : Int) := by omega
  have g1 : (p : Int) < n := by omega
  have g2 : (0 : Int) ≤ p := by omega
  have g3 : (p : Int) + 1 < n := by omega
  have g4 : p < n := by omega
  have g5 : p + 1 < n := by omega
  have hdn : p + d = n := by omega
  clear hn hS hx hy hl hle hq hc0 hc1 hdl hd
  go_enter Tryd.func23, Tryd.ntmps23
  go_wp2
  go_quiet (fail)
  have hR : (((refNew w).drewN nq)).heap[w.heap.size]? = some (.cells #[.int .i64 0, .int .i64 0, .slice none 0 0] 33 (0, 0)) := refNew_at w
  have hBW : Below w.heap.size w ((refNew w).drewN nq) := Below.drewN_r (refNew_below w) nq
  go_wp2
  refine bodyPost_ret (ref_res _ _ w.heap.size _ _ _ _ _ (0, 0) rfl rfl rfl (heap_set3 hR)) rfl (refTo_bad HE.out (by decide) (below_set3 hBW (Nat.le_refl _)))
set_option maxRecDepth 100000 in
set_option maxHeartbeats 2000000 in
theorem rread_bad (b off c p : Nat) (l : List Nat) (hl : Bytes l) (hp : p ≤ l.length) (w : World) (hS : Sl encY w.heap.size w (.slice (some ⟨b, off, none⟩) l.length c) l) (h : 2 ≤ (l.drop p).length) (h2 : ¬ 4096 < lenOf (l.drop p)) (h3 : ¬ (l.drop p).length < lenOf (l.drop p) + 7) (h4 : openL ((l.drop p).take (lenOf (l.drop p) + 7)) = none) :
    Calls Tryd.prog 23 #[.slice (some ⟨b, off, none⟩) l.length c, .int .i64 p] w (RefTo w l p) := by
  have hz := zrefF
  have HE : Hid (readE (l.drop p) = 22) := Lib.hid (by unfold readE; rw [if_neg (by omega), if_neg h2, if_neg h3, if_pos h4])
  have hdl : (l.drop p).length = l.length - p := List.length_drop
  obtain ⟨x, hx⟩ : ∃ x, (l.drop p)[0]? = some x := ⟨_, List.getElem?_eq_getElem (by omega)⟩
  obtain ⟨y, hy⟩ : ∃ y, (l.drop p)[1]? = some y := ⟨_, List.getElem?_eq_getElem (by omega)⟩
  have hle : lenOf (l.drop p) = x + 256 * y := by unfold lenOf; simp [List.getD, hx, hy]
  rw [List.getElem?_drop] at hx hy
  have hxb := hl.2 x (List.mem_of_getElem? hx)
  have hyb := hl.2 y (List.mem_of_getElem? hy)
  obtain ⟨b0, o0, e0, hb0, hc0⟩ := hS.at_ hx
  obtain ⟨b1, o1, e1, hb1, hc1⟩ := hS.at_ hy
  cases e0; cases e1
  have k0 : w.cell? ⟨b, off + p, none⟩ = some (.int .u8 (x : Int)) := hc0
  have k1 : w.cell? ⟨b, off + (p + 1), none⟩ = some (.int .u8 (y : Int)) := hc1
  obtain ⟨q, hq⟩ : ∃ q, lenOf (l.drop p) = q := ⟨_, rfl⟩
  rw [hq] at h2 hle
  have hqi : (x : Int) + 256 * (y : Int) = (q : Int) := by omega
  obtain ⟨s, hs⟩ : ∃ s, q + 7 = s := ⟨_, rfl⟩
  rw [hq, hs] at h3
  have LN : s ≤ (l.drop p).length := by omega
  have hs7 : (q : Int) + 7 = (s : Int) := by omega
  have h77 : 7 ≤ s := by omega
  obtain ⟨t, ht⟩ : ∃ t, p + s = t := ⟨_, rfl⟩
  have htl : t ≤ l.length := by omega
  have hpt : p < t := by omega
  have hti : (p : Int) + (q : Int) + 7 = (t : Int) := by omega
  have hlist : (l.take t).drop p = (l.drop p).take s := by rw [List.drop_take]; congr 1; omega
  have hSt := (hS.take htl).drop hpt
  rw [hlist] at hSt
  have htb : Bytes ((l.drop p).take s) := ⟨by have := hl.1; rw [List.length_take, List.length_drop]; omega, fun z hz => hl.2 z (List.mem_of_mem_drop (List.mem_of_mem_take hz))⟩
  have hop : openL ((l.drop p).take s) = none := by rw [← hs, ← hq]; exact h4
  clear h4
  have HTK := Lib.hid (fun (W : World) (hb : Below w.heap.size w W) => refOpen_new _ (t - p) (c - p) ((l.drop p).take s) htb W ((hSt.below hb).mono hb.size))
  rw [hop] at HTK
  have htc : t ≤ c := by have := hS.capb; omega
  have hpc : p ≤ c := by omega
  clear hSt htb hs hop hlist h3

  have hl1 := hl.1
  have hcap := hS.capb
  obtain ⟨n, hn⟩ : ∃ n, l.length = n := ⟨_, rfl⟩
  rw [hdl] at h LN
  rw [hn] at h hl1 hcap LN hp ⊢
  obtain ⟨d, hd⟩ : ∃ d, n - p = d := ⟨_, rfl⟩
  rw [hd] at h LN
  have hdi : (n : Int) - (p : Int) = (d : Int) := by omega
  have g1 : (p : Int) < n := by omega
  have g2 : (0 : Int) ≤ p := by omega
  have g3 : (p : Int) + 1 < n := by omega
  have g4 : p < n := by omega
  have g5 : p + 1 < n := by omega
  have hdn : p + d = n := by omega
  clear hn hS hx hy hl hle hq hc0 hc1 hdl hd
  go_enter Tryd.func23, Tryd.ntmps23
  go_wp2
  go_quiet (fail)
  have hR : (((refNew w).drewN nq)).heap[w.heap.size]? = some (.cells #[.int .i64 0, .int .i64 0, .slice none 0 0] 33 (0, 0)) := refNew_at w
  have hBW : Below w.heap.size w ((refNew w).drewN nq) := Below.drewN_r (refNew_below w) nq
  have HR := Lib.hid hR
  go_upto_region 10 with (go_at_call 41; refine (HTK.out _ hBW).mono ?_; rintro e w2 ⟨v2, rfl, hS2, hb2, hn2⟩; have H2 := Lib.hid hS2; clear hS2)
  have hR2 := (hb2.block w.heap.size (Array.getElem?_eq_some_iff.1 HR.out).1).trans HR.out
  have hB2 := hBW.trans (hb2.mono hBW.size)
  have HR2 := Lib.hid hR2
  obtain ⟨f1, f2, f3, f4, f5, f6⟩ := cell3 hR2
  clear hR2 hR
  go_wp2
  refine bodyPost_ret (ref_res _ _ w.heap.size _ _ _ _ _ (0, 0) rfl rfl rfl (heap_set3 HR2.out)) rfl (refTo_bad HE.out (by decide) (below_set3 hB2 (Nat.le_refl _)))
set_option maxRecDepth 100000 in
set_option maxHeartbeats 2000000 in
theorem rread_zero (b off c p : Nat) (l : List Nat) (hl : Bytes l) (hp : p ≤ l.length) (w : World) (hS : Sl encY w.heap.size w (.slice (some ⟨b, off, none⟩) l.length c) l) (h : 2 ≤ (l.drop p).length) (h2 : ¬ 4096 < lenOf (l.drop p)) (h3 : ¬ (l.drop p).length < lenOf (l.drop p) + 7) (h4 : openL ((l.drop p).take (lenOf (l.drop p) + 7)) = some ((l.drop p).take (lenOf (l.drop p) + 3))) (h5 : (l.drop p).getD 2 0 = 0) :
    Calls Tryd.prog 23 #[.slice (some ⟨b, off, none⟩) l.length c, .int .i64 p] w (RefTo w l p) := by
  have hz := zrefF
  have HE : Hid (readE (l.drop p) = 20) := Lib.hid (by unfold readE; rw [if_neg (by omega), if_neg h2, if_neg h3, if_neg (by rw [h4]; simp), if_pos h5])
  have hdl : (l.drop p).length = l.length - p := List.length_drop
  obtain ⟨x, hx⟩ : ∃ x, (l.drop p)[0]? = some x := ⟨_, List.getElem?_eq_getElem (by omega)⟩
  obtain ⟨y, hy⟩ : ∃ y, (l.drop p)[1]? = some y := ⟨_, List.getElem?_eq_getElem (by omega)⟩
  have hle : lenOf (l.drop p) = x + 256 * y := by unfold lenOf; simp [List.getD, hx, hy]
  rw [List.getElem?_drop] at hx hy
  have hxb := hl.2 x (List.mem_of_getElem? hx)
  have hyb := hl.2 y (List.mem_of_getElem? hy)
  obtain ⟨b0, o0, e0, hb0, hc0⟩ := hS.at_ hx
  obtain ⟨b1, o1, e1, hb1, hc1⟩ := hS.at_ hy
  cases e0; cases e1
  have k0 : w.cell? ⟨b, off + p, none⟩ = some (.int .u8 (x : Int)) := hc0
  have k1 : w.cell? ⟨b, off + (p + 1), none⟩ = some (.int .u8 (y : Int)) := hc1
  obtain ⟨q, hq⟩ : ∃ q, lenOf (l.drop p) = q := ⟨_, rfl⟩
  rw [hq] at h2 hle
  have hqi : (x : Int) + 256 * (y : Int) = (q : Int) := by omega
  obtain ⟨s, hs⟩ : ∃ s, q + 7 = s := ⟨_, rfl⟩
  rw [hq, hs] at h3
  have LN : s ≤ (l.drop p).length := by omega
  have hs7 : (q : Int) + 7 = (s : Int) := by omega
  have h77 : 7 ≤ s := by omega
  obtain ⟨t, ht⟩ : ∃ t, p + s = t := ⟨_, rfl⟩
  have htl : t ≤ l.length := by omega
  have hpt : p < t := by omega
  have hti : (p : Int) + (q : Int) + 7 = (t : Int) := by omega
  have hlist : (l.take t).drop p = (l.drop p).take s := by rw [List.drop_take]; congr 1; omega
  have hSt := (hS.take htl).drop hpt
  rw [hlist] at hSt
  have htb : Bytes ((l.drop p).take s) := ⟨by have := hl.1; rw [List.length_take, List.length_drop]; omega, fun z hz => hl.2 z (List.mem_of_mem_drop (List.mem_of_mem_take hz))⟩
  have hop : openL ((l.drop p).take s) = some ((l.drop p).take (lenOf (l.drop p) + 3)) := by rw [← hs, ← hq]; exact h4
  clear h4
  rw [hq] at hop
  obtain ⟨z, hz2⟩ : ∃ z, (l.drop p)[2]? = some z := ⟨_, List.getElem?_eq_getElem (by omega)⟩
  have hzb : z < 256 := hl.2 z (List.mem_of_mem_drop (List.mem_of_getElem? hz2))
  have h5' : (l.drop p).getD 2 0 = z := by simp [List.getD, hz2]
  rw [h5'] at h5 
  clear h5'
  have hz3 : ((l.drop p).take (q + 3))[2]? = some z := by rw [List.getElem?_take, if_pos (by omega)]; exact hz2
  have hlt3 : ((l.drop p).take (q + 3)).length = q + 3 := by rw [List.length_take]; omega
  have HZ := Lib.hid hz3
  have HL3 := Lib.hid hlt3
  clear hz2 hz3 hlt3
  have hz0 : ((z : Int) == 0) = true := by rw [h5]; rfl
  clear h5
  have HTK := Lib.hid (fun (W : World) (hb : Below w.heap.size w W) => refOpen_new _ (t - p) (c - p) ((l.drop p).take s) htb W ((hSt.below hb).mono hb.size))
  rw [hop] at HTK
  have htc : t ≤ c := by have := hS.capb; omega
  have hpc : p ≤ c := by omega
  clear hSt htb hs hop hlist h3

  have hl1 := hl.1
  have hcap := hS.capb
  obtain ⟨n, hn⟩ : ∃ n, l.length = n := ⟨_, rfl⟩
  rw [hdl] at h LN
  rw [hn] at h hl1 hcap LN hp ⊢
  obtain ⟨d, hd⟩ : ∃ d, n - p = d := ⟨_, rfl⟩
  rw [hd] at h LN
  have hdi : (n : Int) - (p : Int) = (d : Int) := by omega
  have g1 : (p : Int) < n := by omega
  have g2 : (0 : Int) ≤ p := by omega
  have g3 : (p : Int) + 1 < n := by omega
  have g4 : p < n := by omega
  have g5 : p + 1 < n := by omega
  have hdn : p + d = n := by omega
  clear hn hS hx hy hl hle hq hc0 hc1 hdl hd
  go_enter Tryd.func23, Tryd.ntmps23
  go_wp2
  go_quiet (fail)
  have hR : (((refNew w).drewN nq)).heap[w.heap.size]? = some (.cells #[.int .i64 0, .int .i64 0, .slice none 0 0] 33 (0, 0)) := refNew_at w
  have hBW : Below w.heap.size w ((refNew w).drewN nq) := Below.drewN_r (refNew_below w) nq
  have HR := Lib.hid hR
  go_upto_region 12 with (go_at_call 41; refine (HTK.out _ hBW).mono ?_; rintro e w2 ⟨v2, rfl, hS2, hb2, hn2⟩; have H2 := Lib.hid hS2; clear hS2)
  have hR2 := (hb2.block w.heap.size (Array.getElem?_eq_some_iff.1 HR.out).1).trans HR.out
  have hB2 := hBW.trans (hb2.mono hBW.size)
  have HR2 := Lib.hid hR2
  obtain ⟨f1, f2, f3, f4, f5, f6⟩ := cell3 hR2
  clear hR2 hR
  have hS2 : Sl encY w2.heap.size w2 v2 ((l.drop p).take (q + 3)) := H2.out
  obtain ⟨b2, o2, c2, rfl, hc2, hcc2⟩ : ∃ b2 o2 c2, v2 = .slice (some ⟨b2, o2, none⟩) (q + 3) c2 ∧ w2.cell? ⟨b2, o2 + 2, none⟩ = some (.int .u8 (z : Int)) ∧ q + 3 ≤ c2 := by
    obtain ⟨a, c, rfl⟩ := hS2.form
    rw [HL3.out] at hS2 ⊢
    obtain ⟨b2, o2, rfl, _, hcz⟩ := hS2.at_ HZ.out
    exact ⟨b2, o2, c, rfl, hcz, hS2.capb⟩
  have hne : b2 ≠ w.heap.size := by
    rintro rfl
    have h9 := HR2.out
    simp [World.cell?, h9] at hc2
    rcases o2 with _ | o2 <;> simp at hc2
  have HS2 := Lib.hid hS2
  obtain ⟨u, hu⟩ : ∃ u, q + 3 = u := ⟨_, rfl⟩
  rw [hu] at hcc2 HS2 ⊢
  have u1 : 2 < u := by omega
  have u2 : (2 : Int) < u := by omega
  have HUU := Lib.hid hu
  clear hS2 H2 HTK
  go_wp2
  refine bodyPost_ret (ref_res _ _ w.heap.size _ _ _ _ _ (0, 0) rfl rfl rfl (heap_set3 HR2.out)) rfl (refTo_bad HE.out (by decide) (below_set3 hB2 (Nat.le_refl _)))
set_option maxRecDepth 100000 in
set_option maxHeartbeats 2000000 in
theorem rread_good (b off c p : Nat) (l : List Nat) (hl : Bytes l) (hp : p ≤ l.length) (w : World) (hS : Sl encY w.heap.size w (.slice (some ⟨b, off, none⟩) l.length c) l) (h : 2 ≤ (l.drop p).length) (h2 : ¬ 4096 < lenOf (l.drop p)) (h3 : ¬ (l.drop p).length < lenOf (l.drop p) + 7) (h4 : openL ((l.drop p).take (lenOf (l.drop p) + 7)) = some ((l.drop p).take (lenOf (l.drop p) + 3))) (h5 : (l.drop p).getD 2 0 ≠ 0) :
    Calls Tryd.prog 23 #[.slice (some ⟨b, off, none⟩) l.length c, .int .i64 p] w (RefTo w l p) := by
  have hz := zrefF
  have HE : Hid (readE (l.drop p) = 0) := Lib.hid (by unfold readE; rw [if_neg (by omega), if_neg h2, if_neg h3, if_neg (by rw [h4]; simp), if_neg h5])
  have HEN : Hid (readN (l.drop p) = lenOf (l.drop p) + 7) := Lib.hid (by unfold readN; rw [if_pos HE.out])
  have HEK : Hid (readK (l.drop p) = (l.drop p).getD 2 0) := Lib.hid (by unfold readK; rw [if_pos HE.out])
  have HEB : Hid (readB (l.drop p) = ((l.drop p).take (lenOf (l.drop p) + 3)).drop 3) := Lib.hid (by unfold readB; rw [if_pos HE.out])
  have hdl : (l.drop p).length = l.length - p := List.length_drop
  obtain ⟨x, hx⟩ : ∃ x, (l.drop p)[0]? = some x := ⟨_, List.getElem?_eq_getElem (by omega)⟩
  obtain ⟨y, hy⟩ : ∃ y, (l.drop p)[1]? = some y := ⟨_, List.getElem?_eq_getElem (by omega)⟩
  have hle : lenOf (l.drop p) = x + 256 * y := by unfold lenOf; simp [List.getD, hx, hy]
  rw [List.getElem?_drop] at hx hy
  have hxb := hl.2 x (List.mem_of_getElem? hx)
  have hyb := hl.2 y (List.mem_of_getElem? hy)
  obtain ⟨b0, o0, e0, hb0, hc0⟩ := hS.at_ hx
  obtain ⟨b1, o1, e1, hb1, hc1⟩ := hS.at_ hy
  cases e0; cases e1
  have k0 : w.cell? ⟨b, off + p, none⟩ = some (.int .u8 (x : Int)) := hc0
  have k1 : w.cell? ⟨b, off + (p + 1), none⟩ = some (.int .u8 (y : Int)) := hc1
  obtain ⟨q, hq⟩ : ∃ q, lenOf (l.drop p) = q := ⟨_, rfl⟩
  rw [hq] at h2 hle
  have hqi : (x : Int) + 256 * (y : Int) = (q : Int) := by omega
  obtain ⟨s, hs⟩ : ∃ s, q + 7 = s := ⟨_, rfl⟩
  rw [hq, hs] at h3
  have LN : s ≤ (l.drop p).length := by omega
  have hs7 : (q : Int) + 7 = (s : Int) := by omega
  have h77 : 7 ≤ s := by omega
  obtain ⟨t, ht⟩ : ∃ t, p + s = t := ⟨_, rfl⟩
  have htl : t ≤ l.length := by omega
  have hpt : p < t := by omega
  have hti : (p : Int) + (q : Int) + 7 = (t : Int) := by omega
  have hlist : (l.take t).drop p = (l.drop p).take s := by rw [List.drop_take]; congr 1; omega
  have hSt := (hS.take htl).drop hpt
  rw [hlist] at hSt
  have htb : Bytes ((l.drop p).take s) := ⟨by have := hl.1; rw [List.length_take, List.length_drop]; omega, fun z hz => hl.2 z (List.mem_of_mem_drop (List.mem_of_mem_take hz))⟩
  have hop : openL ((l.drop p).take s) = some ((l.drop p).take (lenOf (l.drop p) + 3)) := by rw [← hs, ← hq]; exact h4
  clear h4
  rw [hq] at hop HEB HEN
  rw [hs] at HEN
  obtain ⟨z, hz2⟩ : ∃ z, (l.drop p)[2]? = some z := ⟨_, List.getElem?_eq_getElem (by omega)⟩
  have hzb : z < 256 := hl.2 z (List.mem_of_mem_drop (List.mem_of_getElem? hz2))
  have h5' : (l.drop p).getD 2 0 = z := by simp [List.getD, hz2]
  rw [h5'] at h5 HEK
  clear h5'
  have hz3 : ((l.drop p).take (q + 3))[2]? = some z := by rw [List.getElem?_take, if_pos (by omega)]; exact hz2
  have hlt3 : ((l.drop p).take (q + 3)).length = q + 3 := by rw [List.length_take]; omega
  have HZ := Lib.hid hz3
  have HL3 := Lib.hid hlt3
  clear hz2 hz3 hlt3
  have hz0 : ((z : Int) == 0) = false := beq_eq_false_iff_ne.2 (by omega)
  have HTK := Lib.hid (fun (W : World) (hb : Below w.heap.size w W) => refOpen_new _ (t - p) (c - p) ((l.drop p).take s) htb W ((hSt.below hb).mono hb.size))
  rw [hop] at HTK
  have htc : t ≤ c := by have := hS.capb; omega
  have hpc : p ≤ c := by omega
  clear hSt htb hs hop hlist h3

  have hl1 := hl.1
  have hcap := hS.capb
  obtain ⟨n, hn⟩ : ∃ n, l.length = n := ⟨_, rfl⟩
  rw [hdl] at h LN
  rw [hn] at h hl1 hcap LN hp ⊢
  obtain ⟨d, hd⟩ : ∃ d, n - p = d := ⟨_, rfl⟩
  rw [hd] at h LN
  have hdi : (n : Int) - (p : Int) = (d : Int) := by omega
  have g1 : (p : Int) < n := by omega
  have g2 : (0 : Int) ≤ p := by omega
  have g3 : (p : Int) + 1 < n := by omega
  have g4 : p < n := by omega
  have g5 : p + 1 < n := by omega
  have hdn : p + d = n := by omega
  clear hn hS hx hy hl hle hq hc0 hc1 hdl hd
  go_enter Tryd.func23, Tryd.ntmps23
  go_wp2
  go_quiet (fail)
  have hR : (((refNew w).drewN nq)).heap[w.heap.size]? = some (.cells #[.int .i64 0, .int .i64 0, .slice none 0 0] 33 (0, 0)) := refNew_at w
  have hBW : Below w.heap.size w ((refNew w).drewN nq) := Below.drewN_r (refNew_below w) nq
  have HR := Lib.hid hR
  go_upto_region 12 with (go_at_call 41; refine (HTK.out _ hBW).mono ?_; rintro e w2 ⟨v2, rfl, hS2, hb2, hn2⟩; have H2 := Lib.hid hS2; clear hS2)
  have hR2 := (hb2.block w.heap.size (Array.getElem?_eq_some_iff.1 HR.out).1).trans HR.out
  have hB2 := hBW.trans (hb2.mono hBW.size)
  have HR2 := Lib.hid hR2
  obtain ⟨f1, f2, f3, f4, f5, f6⟩ := cell3 hR2
  clear hR2 hR
  have hS2 : Sl encY w2.heap.size w2 v2 ((l.drop p).take (q + 3)) := H2.out
  obtain ⟨b2, o2, c2, rfl, hc2, hcc2⟩ : ∃ b2 o2 c2, v2 = .slice (some ⟨b2, o2, none⟩) (q + 3) c2 ∧ w2.cell? ⟨b2, o2 + 2, none⟩ = some (.int .u8 (z : Int)) ∧ q + 3 ≤ c2 := by
    obtain ⟨a, c, rfl⟩ := hS2.form
    rw [HL3.out] at hS2 ⊢
    obtain ⟨b2, o2, rfl, _, hcz⟩ := hS2.at_ HZ.out
    exact ⟨b2, o2, c, rfl, hcz, hS2.capb⟩
  have hne : b2 ≠ w.heap.size := by
    rintro rfl
    have h9 := HR2.out
    simp [World.cell?, h9] at hc2
    rcases o2 with _ | o2 <;> simp at hc2
  have HS2 := Lib.hid hS2
  obtain ⟨u, hu⟩ : ∃ u, q + 3 = u := ⟨_, rfl⟩
  rw [hu] at hcc2 HS2 ⊢
  have u1 : 2 < u := by omega
  have u2 : (2 : Int) < u := by omega
  have HUU := Lib.hid hu
  clear hS2 H2 HTK
  have hti3 : (3 : Int) ≤ u := by omega
  have htn : 3 ≤ u := by omega
  have hdr : ∀ m, ((l.drop p).take u).drop 3 = m → m = readB (l.drop p) := by rintro m rfl; rw [HEB.out, hu]
  clear hu
  have hzv : (z : Int) % 256 = z := by omega
  by_cases hc3 : 3 = c2
  · have htc3 : u = 3 := by omega
    subst htc3
    subst hc3
    go_wp2
    go_region
    go_wp2
    refine bodyPost_ret (ref_res _ _ w.heap.size _ _ _ _ _ (0, 0) rfl rfl rfl (heap_set3 HR2.out)) rfl ⟨_, by rw [if_pos HE.out, HE.out, HEN.out, HEK.out]; rfl, ?_, (below_set3 hB2 (Nat.le_refl _)).drew, fun ad n c h => by cases h; exact Nat.le_trans hBW.size (hn2 ⟨b2, o2, none⟩ _ _ rfl)⟩
    rw [← hdr _ rfl]
    exact .inl ⟨by simp, some ⟨b2, o2, none⟩, 0, rfl, fun h => by cases h⟩
  · have hc3' : 3 < c2 := by omega
    go_wp2
    go_region
    go_wp2
    refine bodyPost_ret (ref_res _ _ w.heap.size _ _ _ _ _ (0, 0) rfl rfl rfl (heap_set3 HR2.out)) rfl ⟨_, by rw [if_pos HE.out, HE.out, HEN.out, HEK.out]; rfl, ?_, (below_set3 hB2 (Nat.le_refl _)).drew, fun ad n c h => by cases h; exact Nat.le_trans hBW.size (hn2 ⟨b2, o2, none⟩ _ _ rfl)⟩
    rw [← hdr _ rfl]
    have h9 := HS2.out.from_ htn
    have h8 := ((h9.set hne (j := 0) (.int .i64 (p : Int))).set hne (j := 1) (.int .i64 (z : Int))).set hne (j := 2) (.slice (some ⟨b2, o2 + 3, none⟩) (u - 3) (c2 - 3))
    refine Sl.below ((Below.refl _ _).drew) ?_
    simpa using h8
theorem rread_any (a : Option Addr) (n c p : Nat) (l : List Nat) (hl : Bytes l) (hp : p ≤ l.length) (w : World) (hS : Sl encY w.heap.size w (.slice a n c) l) :
    Calls Tryd.prog 23 #[.slice a n c, .int .i64 p] w (RefTo w l p) := by
  by_cases h : (l.drop p).length < 2
  · exact rread_short a n c p l hl hp w hS h
  · obtain rfl := hS.len
    obtain ⟨b, off, rfl⟩ : ∃ b off, a = some ⟨b, off, none⟩ := by
      rcases hS with ⟨rfl, _⟩ | ⟨b, off, cap, e, _⟩
      · simp at h
      · cases e; exact ⟨b, off, rfl⟩
    by_cases h2 : 4096 < lenOf (l.drop p)
    · exact rread_long b off c p l hl hp w hS (by omega) h2
    · by_cases h3 : (l.drop p).length < lenOf (l.drop p) + 7
      · exact rread_cutoff b off c p l hl hp w hS (by omega) h2 h3
      · cases h4 : openL ((l.drop p).take (lenOf (l.drop p) + 7)) with
        | none => exact rread_bad b off c p l hl hp w hS (by omega) h2 h3 h4
        | some s =>
          have e := (openL_some h4).2.1
          have e2 : ((l.drop p).take (lenOf (l.drop p) + 7)).take (((l.drop p).take (lenOf (l.drop p) + 7)).length - 4) = (l.drop p).take (lenOf (l.drop p) + 3) := by
            rw [List.length_take, List.take_take]; congr 1; omega
          rw [e2] at e
          rw [e] at h4
          by_cases h5 : (l.drop p).getD 2 0 = 0
          · exact rread_zero b off c p l hl hp w hS (by omega) h2 h3 h4 h5
          · exact rread_good b off c p l hl hp w hS (by omega) h2 h3 h4 h5
end Go.Proofs.YtocmfdahnekboaaDoor

/- The contract of the document's own Scan for layer 6. -/
namespace Go.Proofs.YtocmfdahnekboaaDoor
open Go.RowKit SumM
set_option linter.unusedVariables false

theorem infoR : (Tryd.prog.info? 33).map (fun i => (i.zero, i.size, i.bytes)) = some (some (.agg #[.int .i64 0, .int .i64 0, .slice none 0 0]), 3, 40) := by kernel_rfl
def cellsR (ys : List FX) : List Value := ys.flatMap fun y => [.int .i64 y.1.1, .int .i64 y.1.2.1, y.2]
theorem cellsR_snoc (ys : List FX) (y : FX) : cellsR (ys ++ [y]) = cellsR ys ++ [.int .i64 y.1.1, .int .i64 y.1.2.1, y.2] := by simp [cellsR]
theorem cellsR_get : ∀ (ys : List FX) (k : Nat) (y : FX), ys[k]? = some y → (cellsR ys)[k * 3]? = some (.int .i64 y.1.1) ∧ (cellsR ys)[k * 3 + 1]? = some (.int .i64 y.1.2.1) ∧ (cellsR ys)[k * 3 + 2]? = some y.2
  | [], k, y, h => by simp at h
  | x :: ys, 0, y, h => by
    cases h
    exact ⟨rfl, rfl, rfl⟩
  | x :: ys, k + 1, y, h => by
    have ih := cellsR_get ys k y (by simpa using h)
    have e : cellsR (x :: ys) = .int .i64 x.1.1 :: .int .i64 x.1.2.1 :: x.2 :: cellsR ys := rfl
    rw [e, show (k + 1) * 3 = k * 3 + 1 + 1 + 1 from by omega]
    exact ⟨ih.1, ih.2.1, ih.2.2⟩
theorem new_cells3 (w : World) (x y z : Value) (t : TypeId) : ∀ j u, [x, y, z][j]? = some u → (w.alloc (.cells #[x, y, z] t)).cell? ((⟨w.heap.size, 0, none⟩ : Addr).add j) = some u := by
  intro j u hj
  rw [show (⟨w.heap.size, 0, none⟩ : Addr).add j = ⟨w.heap.size, 0 + j, none⟩ from by unfold Addr.add; split <;> simp_all, Nat.zero_add, cell_new_row]
  match j, hj with
  | 0, h => cases h; rfl
  | 1, h => cases h; rfl
  | 2, h => cases h; rfl
  | j + 3, h => simp at h
theorem ownsRow_empty3 (w : World) (e : TypeId) : (w.alloc (.cells #[] e)).ownsRow w.heap.size e 3 (.slice (some ⟨w.heap.size, 0, none⟩) 0 0) 0 [] :=
  ⟨rfl, .inr ⟨w.heap.size, 0, #[], rfl, Nat.le_refl _, World.alloc_heap_new w _, Nat.le_refl _, Nat.zero_le _, rfl, rfl⟩⟩
/-- What the slice value shows does not stand in that block. -/
def OffB (row : Option Nat) (sv : Value) : Prop := ∀ ad n c, sv = .slice (some ad) n c → 0 < n → row ≠ some ad.block
theorem Sl.blk {n m c : Nat} {W : World} {ad : Addr} {l : List Nat} (h : Sl encY n W (.slice (some ad) m c) l) (hm : 0 < m) : ad.block < n := by
  rcases h with ⟨rfl, a', c', e, _⟩ | ⟨b, off, cap, e, hb, _⟩
  · cases e; omega
  · cases e; exact hb
theorem Sl.grown {A B : World} {sv : Value} {l : List Nat} {row : Option Nat} (h : Sl encY A.heap.size A sv l) (hg : A.grownBy B row) (ho : OffB row sv) : Sl encY B.heap.size B sv l := by
  rcases h with h | ⟨b, off, cap, e, hb, hcap, hc⟩
  · exact .inl h
  · rcases Nat.eq_zero_or_pos l.length with h0 | h0
    · rw [e, h0]
      obtain rfl := List.eq_nil_of_length_eq_zero h0
      exact .inl ⟨rfl, _, _, rfl, fun h => by cases h⟩
    · have hk : B.heap[b]? = A.heap[b]? := hg.block b hb (fun e2 => ho _ _ _ e h0 e2.symm)
      exact .inr ⟨b, off, cap, e, Nat.lt_of_lt_of_le hb hg.size, hcap, fun j x hj => (World.cell?_of_block (a := ⟨b, off + j, none⟩) hk).trans (hc j x hj)⟩

/-- How far the document's Scan has come. -/
structure RS (w : World) (L : List Nat) (p : Nat) (v : Value) (ys : List FX) (wr : World) : Prop where
  le : p ≤ L.length
  sc : ys.map Prod.fst ++ scanL L p = scanL L 0
  en : scanE L p = scanE L 0
  own : wr.ownsRow w.heap.size 33 3 v ys.length (cellsR ys)
  sl : ∀ y ∈ ys, Sl encY wr.heap.size wr y.2 y.1.2.2
  b : Below w.heap.size w wr
  len : ys.length * 7 ≤ p
  off : ∀ y ∈ ys, OffB v.ownBlock y.2
  nw : ∀ y ∈ ys, NewV w y.2
theorem RS.below {w wr W : World} {L : List Nat} {p : Nat} {v : Value} {ys : List FX} (h : RS w L p v ys wr) (hb : Below wr.heap.size wr W) : RS w L p v ys W :=
  ⟨h.le, h.sc, h.en, own_below h.own hb (Nat.le_refl _), fun y hy => ((h.sl y hy).below hb).mono hb.size, h.b.trans (hb.mono h.b.size), h.len, h.off, h.nw⟩
/-- One frame more. -/
theorem RS.step {w wr W4 W : World} {L : List Nat} {p k s : Nat} {bd : List Nat} {v v' vb : Value} {ys : List FX} (h : RS w L p v ys wr) (hlt : p < L.length) (hz : readE (L.drop p) = 0) (hk : readK (L.drop p) = k) (hs : readN (L.drop p) = s) (hbd : readB (L.drop p) = bd)
    (hb : Below wr.heap.size wr W4) (hSb : Sl encY W4.heap.size W4 vb bd) (hN : NewV wr vb) (hown : W.ownsRow w.heap.size 33 3 v' (ys.length + 1) (cellsR ys ++ [.int .i64 p, .int .i64 k, vb])) (hg : W4.grownBy W v.ownBlock) (hat : v'.ownBlock = v.ownBlock ∨ v'.ownBlock = some W4.heap.size) (hbw : Below w.heap.size w W) :
    RS w L (p + s) v' (ys ++ [((p, k, bd), vb)]) W := by
  have hst := step_le hlt hz
  have hps := readN_pos hz
  rw [hs] at hst hps
  have hoff : ∀ y ∈ ys ++ [(((p, k, bd), vb) : FX)], OffB v.ownBlock y.2 ∧ Sl encY W4.heap.size W4 y.2 y.1.2.2 := by
    intro y hy
    rcases List.mem_append.1 hy with hy | hy
    · exact ⟨h.off y hy, ((h.sl y hy).below hb).mono hb.size⟩
    · simp at hy
      subst hy
      refine ⟨fun ad n c e _ e2 => ?_, hSb⟩
      have h1 := hN ad n c e
      obtain ⟨_, cur, h2⟩ := own_at h.own e2
      have := (Array.getElem?_eq_some_iff.1 h2).1
      omega
  refine ⟨hst.1, ?_, ?_, by rw [cellsR_snoc, List.length_append]; exact hown, fun y hy => ?_, hbw, ?_, fun y hy => ?_, fun y hy => ?_⟩
  · rw [← h.sc, scanL_step hlt hz, hk, hs, hbd, List.map_append, List.append_assoc]; rfl
  · rw [← h.en, scanE_step hlt hz, hs]
  · exact (hoff y hy).2.grown hg (hoff y hy).1
  · have := h.len
    simp; omega
  · intro ad n c e h0
    rcases hat with e1 | e1
    · rw [e1]; exact (hoff y hy).1 ad n c e h0
    · rw [e1]
      intro e2
      have h1 := (hoff y hy).2
      rw [e] at h1
      have := h1.blk h0
      simp at e2; omega
  · rcases List.mem_append.1 hy with hy | hy
    · exact h.nw y hy
    · simp at hy
      subst hy
      exact hN.mono h.b.size

set_option maxRecDepth 100000 in
set_option maxHeartbeats 4000000 in
theorem refScan_new (a : Option Addr) (n c : Nat) (L : List Nat) (hL : Bytes L) (w : World) (hS : Sl encY w.heap.size w (.slice a n c) L) :
    Calls Tryd.prog 7 #[.slice a n c] w fun e w' => ∃ v ys, e = .returned (.tuple #[v, .int .i64 (scanE L 0 : Nat), .int .i64 (scanW L : Nat)]) ∧ w'.ownsRow w.heap.size 33 3 v ys.length (cellsR ys) ∧ ys.map Prod.fst = scanL L 0 ∧ (∀ y ∈ ys, Sl encY w'.heap.size w' y.2 y.1.2.2) ∧ Below w.heap.size w w' ∧ ∀ y ∈ ys, NewV w y.2 := by
  obtain ⟨i1, hi1, hy0, hy1, hy2⟩ := info_parts infoR
  obtain rfl := hS.len
  have hl1 := hL.1
  have HL := Lib.hid hL
  have HS := Lib.hid hS
  have hz := zrefF
  obtain ⟨M, hM⟩ : ∃ M, L.length = M := ⟨_, rfl⟩
  have HM := Lib.hid hM
  rw [hM] at hl1 HS ⊢
  clear hM hL hS
  have HST : Hid (RS w L 0 (.slice (some ⟨w.heap.size, 0, none⟩) 0 0) [] (w.alloc (.cells #[] 33))) := Lib.hid ⟨Nat.zero_le _, rfl, rfl, ownsRow_empty3 w _, (fun y hy => by cases hy), (Below.refl _ _).alloc (Nat.le_refl _) _, Nat.le_refl _, (fun y hy => by cases hy), (fun y hy => by cases hy)⟩
  go_enter Tryd.func7, Tryd.ntmps7
  go_wp2
  go_loopw [5, 6] (fun v i wr => ∃ p ys, i = .int .i64 (p : Nat) ∧ RS w L p v ys wr) (fun _ i _ => M - (intOf i).toNat)
  case atStart => exact ⟨0, [], rfl, HST.out⟩
  case round =>
    obtain ⟨p, ys, rfl, hR⟩ := hrel
    have hpM : p ≤ M := by have := hR.le; rw [HM.out] at this; exact this
    have HR := Lib.hid hR
    clear hR
    have hSr := (HS.out.below HR.out.b).mono HR.out.b.size
    have HRD := Lib.hid (rread_any _ _ _ p L HL.out (by rw [HM.out]; exact hpM) _ hSr)
    unfold RefTo at HRD
    clear hSr
    by_cases hlt : p < M
    · have hltL : p < L.length := by rw [HM.out]; exact hlt
      have hpi : (p : Int) < M := by omega
      obtain ⟨t, ht⟩ : ∃ t, readE (L.drop p) = t := ⟨_, rfl⟩
      by_cases ht0 : t = 0
      · subst ht0
        obtain ⟨k, hk⟩ : ∃ k, readK (L.drop p) = k := ⟨_, rfl⟩
        obtain ⟨s, hs⟩ : ∃ s, readN (L.drop p) = s := ⟨_, rfl⟩
        obtain ⟨bd, hbd⟩ : ∃ bd, readB (L.drop p) = bd := ⟨_, rfl⟩
        have hst := step_le hltL ht
        rw [hs, HM.out] at hst
        rw [if_pos ht, hk, hs, hbd, ht] at HRD
        have HZ := Lib.hid ht
        have HK := Lib.hid hk
        have HSS := Lib.hid hs
        have HBD := Lib.hid hbd
        clear ht hk hs hbd
        go_wp2_with fail
        refine HRD.out.mono ?_
        rintro e w2 ⟨vb, rfl, hSb, hb2, hN2⟩
        obtain ⟨xa, xc, rfl⟩ := hSb.form
        obtain ⟨q, hq⟩ : ∃ q, bd.length = q := ⟨_, rfl⟩
        rw [hq] at hSb hN2 ⊢
        obtain ⟨W3, hW3⟩ : ∃ W3, w2.alloc (.cells #[.int .i64 p, .int .i64 k, .slice xa q xc] 33) = W3 := ⟨_, rfl⟩
        have b3 : Below w2.heap.size w2 W3 := by rw [← hW3]; exact (Below.refl _ _).alloc (Nat.le_refl _) _
        have k3 : W3.heap[w2.heap.size]? = some (.cells #[.int .i64 p, .int .i64 k, .slice xa q xc] 33 (0, 0)) := by rw [← hW3]; exact World.alloc_heap_new _ _
        have hb03 : Below wr.heap.size wr W3 := hb2.trans (b3.mono hb2.size)
        have HS3 := Lib.hid ((hSb.below b3).mono b3.size)
        have HR3 := Lib.hid (HR.out.below hb03)
        have HB3 := Lib.hid hb03
        have HN2 := Lib.hid hN2
        have HK3 := Lib.hid k3
        have HW3 := Lib.hid hW3
        have hylen := HR.out.len
        obtain ⟨ka, kc, rfl⟩ := own_form HR.out.own
        have hz3 := HR3.out.b.size
        clear hSb hb2 hN2 b3 k3 hb03 hW3 hq HRD HS
        go_upto_region 5 with fail
        rw [HW3.out]
        clear HW3
        obtain ⟨f1, f2, f3, f4, f5, f6⟩ := cell3 HK3.out
        go_wp2_with (at_builtin; refine wpList_append_own_at _ rfl (.tmp 27) (.tmp 29) 27 rfl w.heap.size 33 i1 (.agg #[.int .i64 0, .int .i64 0, .slice none 0 0]) 3 40 Tryd.underlying27 hi1 hy0 hy1 hy2 rfl (by decide) _ _ _ rfl (HR3.out.own.alloc _) ⟨W3.heap.size, 0, none⟩ 1 1 [.int .i64 p, .int .i64 k, .slice xa q xc] rfl rfl (new_cells3 _ _ _ _ _) (by intro u hu; simp at hu; rcases hu with rfl | rfl | rfl <;> rfl) (by unfold maxLen; omega) (by omega) (by simp; omega) ?_)
        intro v5 w5 hown5 hg5 _ hat5
        have b4 : Below W3.heap.size W3 (W3.alloc (.cells #[.int .i64 p, .int .i64 k, .slice xa q xc] 33)) := (Below.refl _ _).alloc (Nat.le_refl _) _
        have hbw := below_grown2 (HR3.out.own.alloc (.cells #[.int .i64 p, .int .i64 k, .slice xa q xc] 33)) (by simp; omega) (HR3.out.b.trans (b4.mono hz3)) hg5
        have HNX := Lib.hid (HR.out.step hltL HZ.out HK.out HSS.out HBD.out (HB3.out.trans (b4.mono HB3.out.size)) ((HS3.out.below b4).mono b4.size) HN2.out hown5 hg5 (by rw [World.size_alloc]; exact hat5) hbw)
        obtain ⟨va5, vc5, rfl⟩ := own_form hown5
        clear hown5 hg5 hat5 b4 hbw
        go_wp2
        go_roundw
        case rel => exact ⟨p + s, ys ++ [((p, k, bd), .slice xa q xc)], by go_num, HNX.out⟩
        case measure => simp [intOf]; omega
      · rw [if_neg (by rw [ht]; exact ht0), show readK (L.drop p) = 0 from if_neg (by rw [ht]; exact ht0), show readN (L.drop p) = 0 from if_neg (by rw [ht]; exact ht0), show readB (L.drop p) = [] from if_neg (by rw [ht]; exact ht0), ht] at HRD
        have hbadE := scanE_bad (l := L) (a := p) (by rw [ht]; exact ht0)
        have hbadL := scanL_bad (l := L) (a := p) (by rw [ht]; exact ht0)
        have hE0 : scanE L 0 = p := by rw [← HR.out.en, hbadE]
        have hW : scanW L = t := by unfold scanW; rw [hE0, if_neg (by rw [HM.out]; omega), ht]
        have hsc := HR.out.sc
        rw [hbadL, List.append_nil] at hsc
        have HE0 := Lib.hid hE0
        have HW := Lib.hid hW
        have HSC := Lib.hid hsc
        have hti : ((t : Int) != 0) = true := by rw [bne_iff_ne]; omega
        clear ht ht0 hbadE hbadL hE0 hW hsc
        obtain ⟨ka, kc, rfl⟩ := own_form HR.out.own
        go_wp2_with fail
        refine HRD.out.mono ?_
        rintro e w2 ⟨vb, rfl, hSb, hb2, _⟩
        obtain ⟨xa, xc, rfl⟩ := hSb.form
        rw [show ([] : List Nat).length = 0 from rfl]
        have b3 : Below w2.heap.size w2 (w2.alloc (.cells #[.int .i64 0, .int .i64 0, .slice xa 0 xc] 33)) := (Below.refl _ _).alloc (Nat.le_refl _) _
        have HR3 := Lib.hid (HR.out.below (hb2.trans (b3.mono hb2.size)))
        clear hSb hb2 b3 HRD
        go_wp2
        go_ret3
        exact ⟨_, ys, by rw [HE0.out, HW.out]; rfl, HR3.out.own, HSC.out, HR3.out.sl, HR3.out.b, HR3.out.nw⟩
    · obtain rfl : p = M := by omega
      have hendE := scanE_end (l := L) (a := p) (by rw [HM.out]; exact Nat.le_refl _)
      have hendL := scanL_end (l := L) (a := p) (by rw [HM.out]; exact Nat.le_refl _)
      have hE0 : scanE L 0 = p := by rw [← HR.out.en, hendE]
      have hW : scanW L = 0 := by unfold scanW; rw [hE0, if_pos HM.out.symm]
      have hsc := HR.out.sc
      rw [hendL, List.append_nil] at hsc
      have HE0 := Lib.hid hE0
      have HW := Lib.hid hW
      have HSC := Lib.hid hsc
      clear hendE hendL hE0 hW hsc HRD hlt
      obtain ⟨ka, kc, rfl⟩ := own_form HR.out.own
      go_wp2
      go_ret3
      exact ⟨_, ys, by rw [HE0.out, HW.out]; rfl, HR.out.own, HSC.out, HR.out.sl, HR.out.b, HR.out.nw⟩
theorem refScan_any (a : Option Addr) (n c : Nat) (L : List Nat) (hL : Bytes L) (w : World) (hS : Sl encY w.heap.size w (.slice a n c) L) :
    Calls Tryd.prog 7 #[.slice a n c] w fun e w' => ∃ v ys, e = .returned (.tuple #[v, .int .i64 (scanE L 0 : Nat), .int .i64 (scanW L : Nat)]) ∧ w'.ownsRow w.heap.size 33 3 v ys.length (cellsR ys) ∧ ys.map Prod.fst = scanL L 0 ∧ (∀ y ∈ ys, Sl encY w'.heap.size w' y.2 y.1.2.2) ∧ Below w.heap.size w w' := by
  refine (refScan_new a n c L hL w hS).mono ?_
  rintro e w' ⟨v, ys, h1, h2, h3, h4, h5, _⟩
  exact ⟨v, ys, h1, h2, h3, h4, h5⟩
end Go.Proofs.YtocmfdahnekboaaDoor
