/- The contract of the document's own Read for layer 6. -/
import Derived.Test.YtfhigngfohfclaaFrameB
import Derived.Test.YtfhigngfohfclaaRefF
import Derived.RegionTactic
import Derived.BigRegion
namespace Go.Proofs.Ytfhigngfohfclaa
open Go.RowKit SumM
set_option linter.unusedVariables false

/-- What was made behind a world. -/
def NewV (w : World) (v : Value) : Prop := ∀ ad n c, v = .slice (some ad) n c → w.heap.size ≤ ad.block
theorem NewV.nil (w : World) : NewV w (.slice none 0 0) := fun ad n c h => by cases h
theorem NewV.of_own {w W : World} {e s n : Nat} {v : Value} {xs : List Value} (h : W.ownsRow w.heap.size e s v n xs) : NewV w v := fun ad m c hv => by
  rcases h.2 with ⟨e0, _⟩ | ⟨g, cap, cur, e0, hg, _⟩
  · rw [hv] at e0; cases e0
  · rw [hv] at e0; cases e0; exact hg
theorem NewV.mono {w W : World} {v : Value} (h : NewV W v) (hs : w.heap.size ≤ W.heap.size) : NewV w v := fun ad n c e => Nat.le_trans hs (h ad n c e)
set_option maxRecDepth 100000 in
set_option maxHeartbeats 1000000 in
theorem refOpen_new (a : Option Addr) (n c : Nat) (l : List Nat) (hl : Bytes l) (w : World) (hS : Sl encY w.heap.size w (.slice a n c) l) :
    Calls Try.prog 89 #[.slice a n c] w fun e w' => ∃ v, e = .returned (.tuple #[v, .bool (openL l).isSome]) ∧ Sl encY w'.heap.size w' v ((openL l).getD []) ∧ Below w.heap.size w w' ∧ NewV w v := by
  obtain rfl := hS.len
  by_cases h4 : l.length < 4
  · rw [show openL l = none from if_pos h4]
    obtain ⟨hl1, _⟩ := hl
    obtain ⟨n, hn⟩ : ∃ n, l.length = n := ⟨_, rfl⟩
    rw [hn] at h4 hl1 ⊢
    clear hn hS
    go_enter Try.func89, Try.ntmps89
    go_wp2
    go_ret2
    exact ⟨_, rfl, Sl.nil _ _ _, Below.refl _ _, NewV.nil _⟩
  · obtain ⟨b, off, rfl, hb, hcap⟩ : ∃ b off, a = some ⟨b, off, none⟩ ∧ b < w.heap.size ∧ l.length ≤ c := by
      rcases hS with ⟨rfl, _⟩ | ⟨b, off, cap, e, hb, hcap, _⟩
      · simp at h4
      · cases e; exact ⟨b, off, rfl, hb, hcap⟩
    have hT := hS.cut (k := l.length - 4) (by omega) c (by omega)
    have hlt : Bytes (l.take (l.length - 4)) := ⟨by have := hl.1; simp; omega, fun x hx => hl.2 x (List.mem_of_mem_take hx)⟩
    have hlen : (l.take (l.length - 4)).length = l.length - 4 := by simp
    have hop : openL l = if sealL (l.take (l.length - 4)) = l then some (l.take (l.length - 4)) else none := if_neg h4
    obtain ⟨t, ht⟩ : ∃ t, l.take (l.length - 4) = t := ⟨_, rfl⟩
    rw [ht] at hT hlt hlen hop
    have HSE := Lib.hid (refSeal_any _ _ _ t hlt w hT)
    have HS := Lib.hid hS
    have HO := Lib.hid hop
    have HB := Lib.hid hl
    have hl1 := hl.1
    have HT := Lib.hid hT
    obtain ⟨n, hn⟩ : ∃ n, l.length = n := ⟨_, rfl⟩
    obtain ⟨m, hm⟩ : ∃ m, n - 4 = m := ⟨_, rfl⟩
    have hnm : n = m + 4 := by omega
    rw [hn] at h4 hlen hcap hl1 HSE HS HT ⊢
    rw [hm] at hlen HSE HT
    have hsub : ((n : Int) - 4) = (m : Int) := by omega
    have HM := Lib.hid hnm
    have HTL := Lib.hid hlen
    have HLT := Lib.hid hlt
    have hmc : m ≤ c := by omega
    have hml : m ≤ 1048576 := by omega
    clear ht hop hS hT hlt hl hn hm hnm hlen
    go_enter Try.func89, Try.ntmps89
    go_wp2_with (go_at_call 88; refine HSE.out.mono ?_; rintro e w1 ⟨v, rfl, hown, hb1⟩)
    have hSv := Sl.of_owns hown
    have hsl : (sealL t).length = m + 4 := by rw [seal_len, HTL.out]
    have hbb : Bytes (sealL t) := ⟨by rw [hsl]; have := HM.out; omega, seal_bytes HLT.out.2⟩
    obtain ⟨g, cap, rfl⟩ : ∃ g cap, v = .slice (some ⟨g, 0, none⟩) (m + 4) cap := by
      rcases hown.2 with ⟨_, e⟩ | ⟨g, cap, cur, e, _⟩
      · rw [hsl] at e; omega
      · rw [hsl] at e; exact ⟨g, cap, e⟩
    have HST := Lib.hid (HS.out.below hb1)
    have HEQ := Lib.hid (sameY_any _ _ _ _ _ _ (sealL t) l w1 hbb.1 HB.out.1 hSv (HST.out.mono hb1.size))
    clear hbb hsl hSv hown
    by_cases heq : sealL t = l
    · rw [show decide (sealL t = l) = true from decide_eq_true heq] at HEQ
      have HR : Hid (openL l = some t) := Lib.hid (by rw [HO.out, if_pos heq])
      clear heq
      go_wp2_with (first | (go_at_call 27; refine HEQ.out.mono ?_; rintro e w2 ⟨rfl, hb2⟩; have hb02 := hb1.trans (hb2.mono hb1.size); have HT2 := Lib.hid ((HT.out.below hb02).mono hb02.size)) | (go_at_call 23; refine (copyY_any _ _ _ t HLT.out.1 _ HT2.out).mono ?_; rintro e w3 ⟨v3, rfl, hown3, hb3⟩; have H3 := Lib.hid (Sl.of_owns hown3); have HN3 := Lib.hid (NewV.of_own hown3); clear hown3))
      go_ret2
      exact ⟨_, by rw [HR.out]; rfl, by rw [HR.out]; exact H3.out, hb02.trans (hb3.mono hb02.size), HN3.out.mono hb02.size⟩
    · rw [show decide (sealL t = l) = false from decide_eq_false heq] at HEQ
      have HR : Hid (openL l = none) := Lib.hid (by rw [HO.out, if_neg heq])
      clear heq
      go_wp2_with (go_at_call 27; refine HEQ.out.mono ?_; rintro e w2 ⟨rfl, hb2⟩)
      go_ret2
      exact ⟨_, by rw [HR.out]; rfl, by rw [HR.out]; exact Sl.nil _ _ _, hb1.trans (hb2.mono hb1.size), NewV.nil _⟩

/-- What the document's Read tells of the bytes from a place on. -/
def RefTo (w : World) (l : List Nat) (p : Nat) (e : Ending) (w' : World) : Prop :=
  ∃ v, e = .returned (.tuple #[.agg #[.int .i64 (if readE (l.drop p) = 0 then p else 0 : Nat), .int .i64 (readK (l.drop p)), v], .int .i64 (readN (l.drop p)), .int .i64 (readE (l.drop p))]) ∧ Sl encY w'.heap.size w' v (readB (l.drop p)) ∧ Below w.heap.size w w' ∧ NewV w v
theorem refTo_bad {w w' : World} {l : List Nat} {p n : Nat} (h : readE (l.drop p) = n) (h0 : n ≠ 0) (hb : Below w.heap.size w w') : RefTo w l p (.returned (.tuple #[.agg #[.int .i64 0, .int .i64 0, .slice none 0 0], .int .i64 0, .int .i64 n])) w' := by
  refine ⟨.slice none 0 0, ?_, ?_, hb, NewV.nil _⟩
  · rw [if_neg (by rw [h]; exact h0), h, show readK (l.drop p) = 0 from if_neg (by rw [h]; exact h0), show readN (l.drop p) = 0 from if_neg (by rw [h]; exact h0)]; rfl
  · rw [show readB (l.drop p) = [] from if_neg (by rw [h]; exact h0)]; exact Sl.nil _ _ _
theorem zrefF (w : World) : (zeroValue 87).run Try.prog w = .ok (.agg #[.int .i64 0, .int .i64 0, .slice none 0 0]) w := by kernel_rfl
theorem ref_res (tmps : Array Value) (w : World) (b : Nat) (k u v n e : Value) (fr : Nat × Nat) (hp : tmps.getD 4 undef = .pointer (some ⟨b, 0, none⟩)) (h3 : tmps.getD 5 undef = n) (h4 : tmps.getD 6 undef = e)
    (hg : w.heap[b]? = some (.cells #[k, u, v] 87 fr)) : (results Try.f57 tmps).run Try.prog w = .ok (.tuple #[.agg #[k, u, v], n, e]) w := by
  have hp' : tmps[4]?.getD undef = .pointer (some ⟨b, 0, none⟩) := by simpa using hp
  have h3' : tmps[5]?.getD undef = n := by simpa using h3
  have h4' : tmps[6]?.getD undef = e := by simpa using h4
  have k1 := run_loadVar_row (P := Try.prog) w b 87 87 #[k, u, v] fr _ hg Try.underlying87 rfl (by kernel_rfl)
  simp [results, hp', h3', h4', asAddr, k1]
theorem heap_set3 {W : World} {b : Nat} {t : TypeId} {x y z k u v : Value} (h : W.heap[b]? = some (.cells #[x, y, z] t (0, 0))) : (((W.setCell ⟨b, 0, none⟩ k).setCell ⟨b, 1, none⟩ u).setCell ⟨b, 2, none⟩ v).heap[b]? = some (.cells #[k, u, v] t (0, 0)) :=
  heap_setCell_same _ b 2 _ t v (heap_setCell_same _ b 1 _ t u (heap_setCell_same W b 0 _ t k h))
theorem below_set3 {B : Nat} {w W : World} {b : Nat} {k u v : Value} (h : Below B w W) (hb : B ≤ b) : Below B w (((W.setCell ⟨b, 0, none⟩ k).setCell ⟨b, 1, none⟩ u).setCell ⟨b, 2, none⟩ v) := ((h.setCell (p := ⟨b, 0, none⟩) hb _).setCell (p := ⟨b, 1, none⟩) hb _).setCell (p := ⟨b, 2, none⟩) hb _
theorem cell3 {W : World} {b : Nat} {t : TypeId} {x y z : Value} (h : W.heap[b]? = some (.cells #[x, y, z] t (0, 0))) : W.cell? ⟨b, 0, none⟩ = some x ∧ W.cell? ⟨b, 1, none⟩ = some y ∧ W.cell? ⟨b, 2, none⟩ = some z ∧ W.frozen? ⟨b, 0, none⟩ = false ∧ W.frozen? ⟨b, 1, none⟩ = false ∧ W.frozen? ⟨b, 2, none⟩ = false := by
  refine ⟨?_, ?_, ?_, ?_, ?_, ?_⟩ <;> simp [World.cell?, World.frozen?, h]
abbrev refNew (w : World) : World := w.alloc (.cells #[.int .i64 0, .int .i64 0, .slice none 0 0] 87)
theorem refNew_at (w : World) : (refNew w).heap[w.heap.size]? = some (.cells #[.int .i64 0, .int .i64 0, .slice none 0 0] 87 (0, 0)) := World.alloc_heap_new w _
theorem refNew_below (w : World) : Below w.heap.size w (refNew w) := (Below.refl _ _).alloc (Nat.le_refl _) _

set_option maxRecDepth 100000 in
set_option maxHeartbeats 1000000 in
theorem rread_short (a : Option Addr) (n c p : Nat) (l : List Nat) (hl : Bytes l) (hp : p ≤ l.length) (w : World) (hS : Sl encY w.heap.size w (.slice a n c) l) (h : (l.drop p).length < 2) :
    Calls Try.prog 57 #[.slice a n c, .int .i64 p] w (RefTo w l p) := by
  have hz := zrefF
  obtain rfl := hS.len
  have HE : Hid (readE (l.drop p) = 21) := Lib.hid (if_pos h)
  rw [List.length_drop] at h
  have hl1 := hl.1
  obtain ⟨n, hn⟩ : ∃ n, l.length = n := ⟨_, rfl⟩
  rw [hn] at h hp hl1 ⊢
  clear hn hS hl
  obtain ⟨d, hd⟩ : ∃ d, n - p = d := ⟨_, rfl⟩
  have hdi : (n : Int) - (p : Int) = (d : Int) := by omega
  have hd2 : d < 2 := by omega
  clear hd h
  go_enter Try.func57, Try.ntmps57
  go_wp2
  refine bodyPost_ret (ref_res _ _ w.heap.size _ _ _ _ _ (0, 0) rfl rfl rfl (World.alloc_heap_new w _)) rfl (refTo_bad HE.out (by decide) ?_)
  exact ((Below.refl _ _).alloc (Nat.le_refl _) _)
set_option maxRecDepth 100000 in
set_option maxHeartbeats 2000000 in
theorem rread_long (b off c p : Nat) (l : List Nat) (hl : Bytes l) (hp : p ≤ l.length) (w : World) (hS : Sl encY w.heap.size w (.slice (some ⟨b, off, none⟩) l.length c) l) (h : 2 ≤ (l.drop p).length) (h2 : 4096 < lenOf (l.drop p)) :
    Calls Try.prog 57 #[.slice (some ⟨b, off, none⟩) l.length c, .int .i64 p] w (RefTo w l p) := by
  have hz := zrefF
  have HE : Hid (readE (l.drop p) = 2) := Lib.hid (by unfold readE; rw [if_neg (by omega), if_pos h2])
  have LN : 2 ≤ (l.drop p).length := h
  have hdl : (l.drop p).length = l.length - p := List.length_drop
  obtain ⟨x, hx⟩ : ∃ x, (l.drop p)[0]? = some x := ⟨_, List.getElem?_eq_getElem (by omega)⟩
  obtain ⟨y, hy⟩ : ∃ y, (l.drop p)[1]? = some y := ⟨_, List.getElem?_eq_getElem (by omega)⟩
  have hle : lenOf (l.drop p) = x + 256 * y := by unfold lenOf; simp [List.getD, hx, hy]
  rw [List.getElem?_drop] at hx hy
  have hxb := hl.2 x (List.mem_of_getElem? hx)
  have hyb := hl.2 y (List.mem_of_getElem? hy)
  obtain ⟨b0, o0, e0, hb0, hc0⟩ := hS.at_ hx
  obtain ⟨b1, o1, e1, hb1, hc1⟩ := hS.at_ hy
  cases e0; cases e1
  have k0 : w.cell? ⟨b, off + p, none⟩ = some (.int .u8 (x : Int)) := hc0
  have k1 : w.cell? ⟨b, off + (p + 1), none⟩ = some (.int .u8 (y : Int)) := hc1
  obtain ⟨q, hq⟩ : ∃ q, lenOf (l.drop p) = q := ⟨_, rfl⟩
  rw [hq] at h2 hle
  have hqi : (x : Int) + 256 * (y : Int) = (q : Int) := by omega
  have LNN := LN
  have hl1 := hl.1
  have hcap := hS.capb
  obtain ⟨n, hn⟩ : ∃ n, l.length = n := ⟨_, rfl⟩
  rw [hdl] at h LN
  rw [hn] at h hl1 hcap LN hp ⊢
  obtain ⟨d, hd⟩ : ∃ d, n - p = d := ⟨_, rfl⟩
  rw [hd] at h LN
  have hdi : (n : Int) - (p : Int) = (d : Int) := by omega
  have g1 : (p : Int) < n := by omega
  have g2 : (0 : Int) ≤ p := by omega
  have g3 : (p : Int) + 1 < n := by omega
  have g4 : p < n := by omega
  have g5 : p + 1 < n := by omega
  have hdn : p + d = n := by omega
  clear hn hS hx hy hl hle hq hc0 hc1 hdl hd
  go_enter Try.func57, Try.ntmps57
  go_wp2
  go_quiet (fail)
  have hR : (((refNew w).drewN nq)).heap[w.heap.size]? = some (.cells #[.int .i64 0, .int .i64 0, .slice none 0 0] 87 (0, 0)) := refNew_at w
  have hBW : Below w.heap.size w ((refNew w).drewN nq) := Below.drewN_r (refNew_below w) nq
  go_wp2
  refine bodyPost_ret (ref_res _ _ w.heap.size _ _ _ _ _ (0, 0) rfl rfl rfl (heap_set3 hR)) rfl (refTo_bad HE.out (by decide) (below_set3 hBW (Nat.le_refl _)))
set_option maxRecDepth 100000 in
set_option maxHeartbeats 2000000 in
theorem rread_cutoff (b off c p : Nat) (l : List Nat) (hl : Bytes l) (hp : p ≤ l.length) (w : World) (hS : Sl encY w.heap.size w (.slice (some ⟨b, off, none⟩) l.length c) l) (h : 2 ≤ (l.drop p).length) (h2 : ¬ 4096 < lenOf (l.drop p)) (h3 : (l.drop p).length < lenOf (l.drop p) + 7) :
    Calls Try.prog 57 #[.slice (some ⟨b, off, none⟩) l.length c, .int .i64 p] w (RefTo w l p) := by
  have hz := zrefF
  have HE : Hid (readE (l.drop p) = 21) := Lib.hid (by unfold readE; rw [if_neg (by omega), if_neg h2, if_pos h3])
  have hdl : (l.drop p).length = l.length - p := List.length_drop
  obtain ⟨x, hx⟩ : ∃ x, (l.drop p)[0]? = some x := ⟨_, List.getElem?_eq_getElem (by omega)⟩
  obtain ⟨y, hy⟩ : ∃ y, (l.drop p)[1]? = some y := ⟨_, List.getElem?_eq_getElem (by omega)⟩
  have hle : lenOf (l.drop p) = x + 256 * y := by unfold lenOf; simp [List.getD, hx, hy]
  rw [List.getElem?_drop] at hx hy
  have hxb := hl.2 x (List.mem_of_getElem? hx)
  have hyb := hl.2 y (List.mem_of_getElem? hy)
  obtain ⟨b0, o0, e0, hb0, hc0⟩ := hS.at_ hx
  obtain ⟨b1, o1, e1, hb1, hc1⟩ := hS.at_ hy
  cases e0; cases e1
  have k0 : w.cell? ⟨b, off + p, none⟩ = some (.int .u8 (x : Int)) := hc0
  have k1 : w.cell? ⟨b, off + (p + 1), none⟩ = some (.int .u8 (y : Int)) := hc1
  obtain ⟨q, hq⟩ : ∃ q, lenOf (l.drop p) = q := ⟨_, rfl⟩
  rw [hq] at h2 hle
  have hqi : (x : Int) + 256 * (y : Int) = (q : Int) := by omega
  obtain ⟨s, hs⟩ : ∃ s, q + 7 = s := ⟨_, rfl⟩
  rw [hq, hs] at h3
  have LN := h3
  have hs7 : (q : Int) + 7 = (s : Int) := by omega
  clear hs h3
  have hl1 := hl.1
  have hcap := hS.capb
  obtain ⟨n, hn⟩ : ∃ n, l.length = n := ⟨_, rfl⟩
  rw [hdl] at h LN
  rw [hn] at h hl1 hcap LN hp ⊢
  obtain ⟨d, hd⟩ : ∃ d, n - p = d := ⟨_, rfl⟩
  rw [hd] at h LN
  have hdi : (n : Int) - (p : Int) = (d : Int) := by omega
  have g1 : (p : Int) < n := by omega
  have g2 : (0 : Int) ≤ p := by omega
  have g3 : (p : Int) + 1 < n := by omega
  have g4 : p < n := by omega
  have g5 : p + 1 < n := by omega
  have hdn : p + d = n := by omega
  clear hn hS hx hy hl hle hq hc0 hc1 hdl hd
  go_enter Try.func57, Try.ntmps57
  go_wp2
  go_quiet (fail)
  have hR : (((refNew w).drewN nq)).heap[w.heap.size]? = some (.cells #[.int .i64 0, .int .i64 0, .slice none 0 0] 87 (0, 0)) := refNew_at w
  have hBW : Below w.heap.size w ((refNew w).drewN nq) := Below.drewN_r (refNew_below w) nq
  go_wp2
  refine bodyPost_ret (ref_res _ _ w.heap.size _ _ _ _ _ (0, 0) rfl rfl rfl (heap_set3 hR)) rfl (refTo_bad HE.out (by decide) (below_set3 hBW (Nat.le_refl _)))
set_option maxRecDepth 100000 in
set_option maxHeartbeats 2000000 in
theorem rread_bad (b off c p : Nat) (l : List Nat) (hl : Bytes l) (hp : p ≤ l.length) (w : World) (hS : Sl encY w.heap.size w (.slice (some ⟨b, off, none⟩) l.length c) l) (h : 2 ≤ (l.drop p).length) (h2 : ¬ 4096 < lenOf (l.drop p)) (h3 : ¬ (l.drop p).length < lenOf (l.drop p) + 7) (h4 : openL ((l.drop p).take (lenOf (l.drop p) + 7)) = none) :
    Calls Try.prog 57 #[.slice (some ⟨b, off, none⟩) l.length c, .int .i64 p] w (RefTo w l p) := by
  have hz := zrefF
  have HE : Hid (readE (l.drop p) = 22) := Lib.hid (by unfold readE; rw [if_neg (by omega), if_neg h2, if_neg h3, if_pos h4])
  have hdl : (l.drop p).length = l.length - p := List.length_drop
  obtain ⟨x, hx⟩ : ∃ x, (l.drop p)[0]? = some x := ⟨_, List.getElem?_eq_getElem (by omega)⟩
  obtain ⟨y, hy⟩ : ∃ y, (l.drop p)[1]? = some y := ⟨_, List.getElem?_eq_getElem (by omega)⟩
  have hle : lenOf (l.drop p) = x + 256 * y := by unfold lenOf; simp [List.getD, hx, hy]
  rw [List.getElem?_drop] at hx hy
  have hxb := hl.2 x (List.mem_of_getElem? hx)
  have hyb := hl.2 y (List.mem_of_getElem? hy)
  obtain ⟨b0, o0, e0, hb0, hc0⟩ := hS.at_ hx
  obtain ⟨b1, o1, e1, hb1, hc1⟩ := hS.at_ hy
  cases e0; cases e1
  have k0 : w.cell? ⟨b, off + p, none⟩ = some (.int .u8 (x : Int)) := hc0
  have k1 : w.cell? ⟨b, off + (p + 1), none⟩ = some (.int .u8 (y : Int)) := hc1
  obtain ⟨q, hq⟩ : ∃ q, lenOf (l.drop p) = q := ⟨_, rfl⟩
  rw [hq] at h2 hle
  have hqi : (x : Int) + 256 * (y : Int) = (q : Int) := by omega
  obtain ⟨s, hs⟩ : ∃ s, q + 7 = s := ⟨_, rfl⟩
  rw [hq, hs] at h3
  have LN : s ≤ (l.drop p).length := by omega
  have hs7 : (q : Int) + 7 = (s : Int) := by omega
  have h77 : 7 ≤ s := by omega
  obtain ⟨t, ht⟩ : ∃ t, p + s = t := ⟨_, rfl⟩
  have htl : t ≤ l.length := by omega
  have hpt : p < t := by omega
  have hti : (p : Int) + (q : Int) + 7 = (t : Int) := by omega
  have hlist : (l.take t).drop p = (l.drop p).take s := by rw [List.drop_take]; congr 1; omega
  have hSt := (hS.take htl).drop hpt
  rw [hlist] at hSt
  have htb : Bytes ((l.drop p).take s) := ⟨by have := hl.1; rw [List.length_take, List.length_drop]; omega, fun z hz => hl.2 z (List.mem_of_mem_drop (List.mem_of_mem_take hz))⟩
  have hop : openL ((l.drop p).take s) = none := by rw [← hs, ← hq]; exact h4
  clear h4
  have HTK := Lib.hid (fun (W : World) (hb : Below w.heap.size w W) => refOpen_new _ (t - p) (c - p) ((l.drop p).take s) htb W ((hSt.below hb).mono hb.size))
  rw [hop] at HTK
  have htc : t ≤ c := by have := hS.capb; omega
  have hpc : p ≤ c := by omega
  clear hSt htb hs hop hlist h3

  have hl1 := hl.1
  have hcap := hS.capb
  obtain ⟨n, hn⟩ : ∃ n, l.length = n := ⟨_, rfl⟩
  rw [hdl] at h LN
  rw [hn] at h hl1 hcap LN hp ⊢
  obtain ⟨d, hd⟩ : ∃ d, n - p = d := ⟨_, rfl⟩
  rw [hd] at h LN
  have hdi : (n : Int) - (p : Int) = (d : Int) := by omega
  have g1 : (p : Int) < n := by omega
  have g2 : (0 : Int) ≤ p := by omega
  have g3 : (p : Int) + 1 < n := by omega
  have g4 : p < n := by omega
  have g5 : p + 1 < n := by omega
  have hdn : p + d = n := by omega
  clear hn hS hx hy hl hle hq hc0 hc1 hdl hd
  go_enter Try.func57, Try.ntmps57
  go_wp2
  go_quiet (fail)
  have hR : (((refNew w).drewN nq)).heap[w.heap.size]? = some (.cells #[.int .i64 0, .int .i64 0, .slice none 0 0] 87 (0, 0)) := refNew_at w
  have hBW : Below w.heap.size w ((refNew w).drewN nq) := Below.drewN_r (refNew_below w) nq
  have HR := Lib.hid hR
  go_upto_region 10 with (go_at_call 89; refine (HTK.out _ hBW).mono ?_; rintro e w2 ⟨v2, rfl, hS2, hb2, hn2⟩; have H2 := Lib.hid hS2; clear hS2)
  have hR2 := (hb2.block w.heap.size (Array.getElem?_eq_some_iff.1 HR.out).1).trans HR.out
  have hB2 := hBW.trans (hb2.mono hBW.size)
  have HR2 := Lib.hid hR2
  obtain ⟨f1, f2, f3, f4, f5, f6⟩ := cell3 hR2
  clear hR2 hR
  go_wp2
  refine bodyPost_ret (ref_res _ _ w.heap.size _ _ _ _ _ (0, 0) rfl rfl rfl (heap_set3 HR2.out)) rfl (refTo_bad HE.out (by decide) (below_set3 hB2 (Nat.le_refl _)))
set_option maxRecDepth 100000 in
set_option maxHeartbeats 2000000 in
theorem rread_zero (b off c p : Nat) (l : List Nat) (hl : Bytes l) (hp : p ≤ l.length) (w : World) (hS : Sl encY w.heap.size w (.slice (some ⟨b, off, none⟩) l.length c) l) (h : 2 ≤ (l.drop p).length) (h2 : ¬ 4096 < lenOf (l.drop p)) (h3 : ¬ (l.drop p).length < lenOf (l.drop p) + 7) (h4 : openL ((l.drop p).take (lenOf (l.drop p) + 7)) = some ((l.drop p).take (lenOf (l.drop p) + 3))) (h5 : (l.drop p).getD 2 0 = 0) :
    Calls Try.prog 57 #[.slice (some ⟨b, off, none⟩) l.length c, .int .i64 p] w (RefTo w l p) := by
  have hz := zrefF
  have HE : Hid (readE (l.drop p) = 20) := Lib.hid (by unfold readE; rw [if_neg (by omega), if_neg h2, if_neg h3, if_neg (by rw [h4]; simp), if_pos h5])
  have hdl : (l.drop p).length = l.length - p := List.length_drop
  obtain ⟨x, hx⟩ : ∃ x, (l.drop p)[0]? = some x := ⟨_, List.getElem?_eq_getElem (by omega)⟩
  obtain ⟨y, hy⟩ : ∃ y, (l.drop p)[1]? = some y := ⟨_, List.getElem?_eq_getElem (by omega)⟩
  have hle : lenOf (l.drop p) = x + 256 * y := by unfold lenOf; simp [List.getD, hx, hy]
  rw [List.getElem?_drop] at hx hy
  have hxb := hl.2 x (List.mem_of_getElem? hx)
  have hyb := hl.2 y (List.mem_of_getElem? hy)
  obtain ⟨b0, o0, e0, hb0, hc0⟩ := hS.at_ hx
  obtain ⟨b1, o1, e1, hb1, hc1⟩ := hS.at_ hy
  cases e0; cases e1
  have k0 : w.cell? ⟨b, off + p, none⟩ = some (.int .u8 (x : Int)) := hc0
  have k1 : w.cell? ⟨b, off + (p + 1), none⟩ = some (.int .u8 (y : Int)) := hc1
  obtain ⟨q, hq⟩ : ∃ q, lenOf (l.drop p) = q := ⟨_, rfl⟩
  rw [hq] at h2 hle
  have hqi : (x : Int) + 256 * (y : Int) = (q : Int) := by omega
  obtain ⟨s, hs⟩ : ∃ s, q + 7 = s := ⟨_, rfl⟩
  rw [hq, hs] at h3
  have LN : s ≤ (l.drop p).length := by omega
  have hs7 : (q : Int) + 7 = (s : Int) := by omega
  have h77 : 7 ≤ s := by omega
  obtain ⟨t, ht⟩ : ∃ t, p + s = t := ⟨_, rfl⟩
  have htl : t ≤ l.length := by omega
  have hpt : p < t := by omega
  have hti : (p : Int) + (q : Int) + 7 = (t : Int) := by omega
  have hlist : (l.take t).drop p = (l.drop p).take s := by rw [List.drop_take]; congr 1; omega
  have hSt := (hS.take htl).drop hpt
  rw [hlist] at hSt
  have htb : Bytes ((l.drop p).take s) := ⟨by have := hl.1; rw [List.length_take, List.length_drop]; omega, fun z hz => hl.2 z (List.mem_of_mem_drop (List.mem_of_mem_take hz))⟩
  have hop : openL ((l.drop p).take s) = some ((l.drop p).take (lenOf (l.drop p) + 3)) := by rw [← hs, ← hq]; exact h4
  clear h4
  rw [hq] at hop
  obtain ⟨z, hz2⟩ : ∃ z, (l.drop p)[2]? = some z := ⟨_, List.getElem?_eq_getElem (by omega)⟩
  have hzb : z < 256 := hl.2 z (List.mem_of_mem_drop (List.mem_of_getElem? hz2))
  have h5' : (l.drop p).getD 2 0 = z := by simp [List.getD, hz2]
  rw [h5'] at h5 
  clear h5'
  have hz3 : ((l.drop p).take (q + 3))[2]? = some z := by rw [List.getElem?_take, if_pos (by omega)]; exact hz2
  have hlt3 : ((l.drop p).take (q + 3)).length = q + 3 := by rw [List.length_take]; omega
  have HZ := Lib.hid hz3
  have HL3 := Lib.hid hlt3
  clear hz2 hz3 hlt3
  have hz0 : ((z : Int) == 0) = true := by rw [h5]; rfl
  clear h5
  have HTK := Lib.hid (fun (W : World) (hb : Below w.heap.size w W) => refOpen_new _ (t - p) (c - p) ((l.drop p).take s) htb W ((hSt.below hb).mono hb.size))
  rw [hop] at HTK
  have htc : t ≤ c := by have := hS.capb; omega
  have hpc : p ≤ c := by omega
  clear hSt htb hs hop hlist h3

  have hl1 := hl.1
  have hcap := hS.capb
  obtain ⟨n, hn⟩ : ∃ n, l.length = n := ⟨_, rfl⟩
  rw [hdl] at h LN
  rw [hn] at h hl1 hcap LN hp ⊢
  obtain ⟨d, hd⟩ : ∃ d, n - p = d := ⟨_, rfl⟩
  rw [hd] at h LN
  have hdi : (n : Int) - (p : Int) = (d : Int) := by omega
  have g1 : (p : Int) < n := by omega
  have g2 : (0 : Int) ≤ p := by omega
  have g3 : (p : Int) + 1 < n := by omega
  have g4 : p < n := by omega
  have g5 : p + 1 < n := by omega
  have hdn : p + d = n := by omega
  clear hn hS hx hy hl hle hq hc0 hc1 hdl hd
  go_enter Try.func57, Try.ntmps57
  go_wp2
  go_quiet (fail)
  have hR : (((refNew w).drewN nq)).heap[w.heap.size]? = some (.cells #[.int .i64 0, .int .i64 0, .slice none 0 0] 87 (0, 0)) := refNew_at w
  have hBW : Below w.heap.size w ((refNew w).drewN nq) := Below.drewN_r (refNew_below w) nq
  have HR := Lib.hid hR
  go_upto_region 12 with (go_at_call 89; refine (HTK.out _ hBW).mono ?_; rintro e w2 ⟨v2, rfl, hS2, hb2, hn2⟩; have H2 := Lib.hid hS2; clear hS2)
  have hR2 := (hb2.block w.heap.size (Array.getElem?_eq_some_iff.1 HR.out).1).trans HR.out
  have hB2 := hBW.trans (hb2.mono hBW.size)
  have HR2 := Lib.hid hR2
  obtain ⟨f1, f2, f3, f4, f5, f6⟩ := cell3 hR2
  clear hR2 hR
  have hS2 : Sl encY w2.heap.size w2 v2 ((l.drop p).take (q + 3)) := H2.out
  obtain ⟨b2, o2, c2, rfl, hc2, hcc2⟩ : ∃ b2 o2 c2, v2 = .slice (some ⟨b2, o2, none⟩) (q + 3) c2 ∧ w2.cell? ⟨b2, o2 + 2, none⟩ = some (.int .u8 (z : Int)) ∧ q + 3 ≤ c2 := by
    obtain ⟨a, c, rfl⟩ := hS2.form
    rw [HL3.out] at hS2 ⊢
    obtain ⟨b2, o2, rfl, _, hcz⟩ := hS2.at_ HZ.out
    exact ⟨b2, o2, c, rfl, hcz, hS2.capb⟩
  have hne : b2 ≠ w.heap.size := by
    rintro rfl
    have h9 := HR2.out
    simp [World.cell?, h9] at hc2
    rcases o2 with _ | o2 <;> simp at hc2
  have HS2 := Lib.hid hS2
  obtain ⟨u, hu⟩ : ∃ u, q + 3 = u := ⟨_, rfl⟩
  rw [hu] at hcc2 HS2 ⊢
  have u1 : 2 < u := by omega
  have u2 : (2 : Int) < u := by omega
  have HUU := Lib.hid hu
  clear hS2 H2 HTK
  go_wp2
  refine bodyPost_ret (ref_res _ _ w.heap.size _ _ _ _ _ (0, 0) rfl rfl rfl (heap_set3 HR2.out)) rfl (refTo_bad HE.out (by decide) (below_set3 hB2 (Nat.le_refl _)))
set_option maxRecDepth 100000 in
set_option maxHeartbeats 2000000 in
theorem rread_good (b off c p : Nat) (l : List Nat) (hl : Bytes l) (hp : p ≤ l.length) (w : World) (hS : Sl encY w.heap.size w (.slice (some ⟨b, off, none⟩) l.length c) l) (h : 2 ≤ (l.drop p).length) (h2 : ¬ 4096 < lenOf (l.drop p)) (h3 : ¬ (l.drop p).length < lenOf (l.drop p) + 7) (h4 : openL ((l.drop p).take (lenOf (l.drop p) + 7)) = some ((l.drop p).take (lenOf (l.drop p) + 3))) (h5 : (l.drop p).getD 2 0 ≠ 0) :
    Calls Try.prog 57 #[.slice (some ⟨b, off, none⟩) l.length c, .int .i64 p] w (RefTo w l p) := by
  have hz := zrefF
  have HE : Hid (readE (l.drop p) = 0) := Lib.hid (by unfold readE; rw [if_neg (by omega), if_neg h2, if_neg h3, if_neg (by rw [h4]; simp), if_neg h5])
  have HEN : Hid (readN (l.drop p) = lenOf (l.drop p) + 7) := Lib.hid (by unfold readN; rw [if_pos HE.out])
  have HEK : Hid (readK (l.drop p) = (l.drop p).getD 2 0) := Lib.hid (by unfold readK; rw [if_pos HE.out])
  have HEB : Hid (readB (l.drop p) = ((l.drop p).take (lenOf (l.drop p) + 3)).drop 3) := Lib.hid (by unfold readB; rw [if_pos HE.out])
  have hdl : (l.drop p).length = l.length - p := List.length_drop
  obtain ⟨x, hx⟩ : ∃ x, (l.drop p)[0]? = some x := ⟨_, List.getElem?_eq_getElem (by omega)⟩
  obtain ⟨y, hy⟩ : ∃ y, (l.drop p)[1]? = some y := ⟨_, List.getElem?_eq_getElem (by omega)⟩
  have hle : lenOf (l.drop p) = x + 256 * y := by unfold lenOf; simp [List.getD, hx, hy]
  rw [List.getElem?_drop] at hx hy
  have hxb := hl.2 x (List.mem_of_getElem? hx)
  have hyb := hl.2 y (List.mem_of_getElem? hy)
  obtain ⟨b0, o0, e0, hb0, hc0⟩ := hS.at_ hx
  obtain ⟨b1, o1, e1, hb1, hc1⟩ := hS.at_ hy
  cases e0; cases e1
  have k0 : w.cell? ⟨b, off + p, none⟩ = some (.int .u8 (x : Int)) := hc0
  have k1 : w.cell? ⟨b, off + (p + 1), none⟩ = some (.int .u8 (y : Int)) := hc1
  obtain ⟨q, hq⟩ : ∃ q, lenOf (l.drop p) = q := ⟨_, rfl⟩
  rw [hq] at h2 hle
  have hqi : (x : Int) + 256 * (y : Int) = (q : Int) := by omega
  obtain ⟨s, hs⟩ : ∃ s, q + 7 = s := ⟨_, rfl⟩
  rw [hq, hs] at h3
  have LN : s ≤ (l.drop p).length := by omega
  have hs7 : (q : Int) + 7 = (s : Int) := by omega
  have h77 : 7 ≤ s := by omega
  obtain ⟨t, ht⟩ : ∃ t, p + s = t := ⟨_, rfl⟩
  have htl : t ≤ l.length := by omega
  have hpt : p < t := by omega
  have hti : (p : Int) + (q : Int) + 7 = (t : Int) := by omega
  have hlist : (l.take t).drop p = (l.drop p).take s := by rw [List.drop_take]; congr 1; omega
  have hSt := (hS.take htl).drop hpt
  rw [hlist] at hSt
  have htb : Bytes ((l.drop p).take s) := ⟨by have := hl.1; rw [List.length_take, List.length_drop]; omega, fun z hz => hl.2 z (List.mem_of_mem_drop (List.mem_of_mem_take hz))⟩
  have hop : openL ((l.drop p).take s) = some ((l.drop p).take (lenOf (l.drop p) + 3)) := by rw [← hs, ← hq]; exact h4
  clear h4
  rw [hq] at hop HEB HEN
  rw [hs] at HEN
  obtain ⟨z, hz2⟩ : ∃ z, (l.drop p)[2]? = some z := ⟨_, List.getElem?_eq_getElem (by omega)⟩
  have hzb : z < 256 := hl.2 z (List.mem_of_mem_drop (List.mem_of_getElem? hz2))
  have h5' : (l.drop p).getD 2 0 = z := by simp [List.getD, hz2]
  rw [h5'] at h5 HEK
  clear h5'
  have hz3 : ((l.drop p).take (q + 3))[2]? = some z := by rw [List.getElem?_take, if_pos (by omega)]; exact hz2
  have hlt3 : ((l.drop p).take (q + 3)).length = q + 3 := by rw [List.length_take]; omega
  have HZ := Lib.hid hz3
  have HL3 := Lib.hid hlt3
  clear hz2 hz3 hlt3
  have hz0 : ((z : Int) == 0) = false := beq_eq_false_iff_ne.2 (by omega)
  have HTK := Lib.hid (fun (W : World) (hb : Below w.heap.size w W) => refOpen_new _ (t - p) (c - p) ((l.drop p).take s) htb W ((hSt.below hb).mono hb.size))
  rw [hop] at HTK
  have htc : t ≤ c := by have := hS.capb; omega
  have hpc : p ≤ c := by omega
  clear hSt htb hs hop hlist h3

  have hl1 := hl.1
  have hcap := hS.capb
  obtain ⟨n, hn⟩ : ∃ n, l.length = n := ⟨_, rfl⟩
  rw [hdl] at h LN
  rw [hn] at h hl1 hcap LN hp ⊢
  obtain ⟨d, hd⟩ : ∃ d, n - p = d := ⟨_, rfl⟩
  rw [hd] at h LN
  have hdi : (n : Int) - (p : Int) = (d : Int) := by omega
  have g1 : (p : Int) < n := by omega
  have g2 : (0 : Int) ≤ p := by omega
  have g3 : (p : Int) + 1 < n := by omega
  have g4 : p < n := by omega
  have g5 : p + 1 < n := by omega
  have hdn : p + d = n := by omega
  clear hn hS hx hy hl hle hq hc0 hc1 hdl hd
  go_enter Try.func57, Try.ntmps57
  go_wp2
  go_quiet (fail)
  have hR : (((refNew w).drewN nq)).heap[w.heap.size]? = some (.cells #[.int .i64 0, .int .i64 0, .slice none 0 0] 87 (0, 0)) := refNew_at w
  have hBW : Below w.heap.size w ((refNew w).drewN nq) := Below.drewN_r (refNew_below w) nq
  have HR := Lib.hid hR
  go_upto_region 12 with (go_at_call 89; refine (HTK.out _ hBW).mono ?_; rintro e w2 ⟨v2, rfl, hS2, hb2, hn2⟩; have H2 := Lib.hid hS2; clear hS2)
  have hR2 := (hb2.block w.heap.size (Array.getElem?_eq_some_iff.1 HR.out).1).trans HR.out
  have hB2 := hBW.trans (hb2.mono hBW.size)
  have HR2 := Lib.hid hR2
  obtain ⟨f1, f2, f3, f4, f5, f6⟩ := cell3 hR2
  clear hR2 hR
  have hS2 : Sl encY w2.heap.size w2 v2 ((l.drop p).take (q + 3)) := H2.out
  obtain ⟨b2, o2, c2, rfl, hc2, hcc2⟩ : ∃ b2 o2 c2, v2 = .slice (some ⟨b2, o2, none⟩) (q + 3) c2 ∧ w2.cell? ⟨b2, o2 + 2, none⟩ = some (.int .u8 (z : Int)) ∧ q + 3 ≤ c2 := by
    obtain ⟨a, c, rfl⟩ := hS2.form
    rw [HL3.out] at hS2 ⊢
    obtain ⟨b2, o2, rfl, _, hcz⟩ := hS2.at_ HZ.out
    exact ⟨b2, o2, c, rfl, hcz, hS2.capb⟩
  have hne : b2 ≠ w.heap.size := by
    rintro rfl
    have h9 := HR2.out
    simp [World.cell?, h9] at hc2
    rcases o2 with _ | o2 <;> simp at hc2
  have HS2 := Lib.hid hS2
  obtain ⟨u, hu⟩ : ∃ u, q + 3 = u := ⟨_, rfl⟩
  rw [hu] at hcc2 HS2 ⊢
  have u1 : 2 < u := by omega
  have u2 : (2 : Int) < u := by omega
  have HUU := Lib.hid hu
  clear hS2 H2 HTK
  have hti3 : (3 : Int) ≤ u := by omega
  have htn : 3 ≤ u := by omega
  have hdr : ∀ m, ((l.drop p).take u).drop 3 = m → m = readB (l.drop p) := by rintro m rfl; rw [HEB.out, hu]
  clear hu
  have hzv : (z : Int) % 256 = z := by omega
  by_cases hc3 : 3 = c2
  · have htc3 : u = 3 := by omega
    subst htc3
    subst hc3
    go_wp2
    go_region
    go_wp2
    refine bodyPost_ret (ref_res _ _ w.heap.size _ _ _ _ _ (0, 0) rfl rfl rfl (heap_set3 HR2.out)) rfl ⟨_, by rw [if_pos HE.out, HE.out, HEN.out, HEK.out]; rfl, ?_, (below_set3 hB2 (Nat.le_refl _)).drew, fun ad n c h => by cases h; exact Nat.le_trans hBW.size (hn2 ⟨b2, o2, none⟩ _ _ rfl)⟩
    rw [← hdr _ rfl]
    exact .inl ⟨by simp, some ⟨b2, o2, none⟩, 0, rfl, fun h => by cases h⟩
  · have hc3' : 3 < c2 := by omega
    go_wp2
    go_region
    go_wp2
    refine bodyPost_ret (ref_res _ _ w.heap.size _ _ _ _ _ (0, 0) rfl rfl rfl (heap_set3 HR2.out)) rfl ⟨_, by rw [if_pos HE.out, HE.out, HEN.out, HEK.out]; rfl, ?_, (below_set3 hB2 (Nat.le_refl _)).drew, fun ad n c h => by cases h; exact Nat.le_trans hBW.size (hn2 ⟨b2, o2, none⟩ _ _ rfl)⟩
    rw [← hdr _ rfl]
    have h9 := HS2.out.from_ htn
    have h8 := ((h9.set hne (j := 0) (.int .i64 (p : Int))).set hne (j := 1) (.int .i64 (z : Int))).set hne (j := 2) (.slice (some ⟨b2, o2 + 3, none⟩) (u - 3) (c2 - 3))
    refine Sl.below ((Below.refl _ _).drew) ?_
    simpa using h8
theorem rread_any (a : Option Addr) (n c p : Nat) (l : List Nat) (hl : Bytes l) (hp : p ≤ l.length) (w : World) (hS : Sl encY w.heap.size w (.slice a n c) l) :
    Calls Try.prog 57 #[.slice a n c, .int .i64 p] w (RefTo w l p) := by
  by_cases h : (l.drop p).length < 2
  · exact rread_short a n c p l hl hp w hS h
  · obtain rfl := hS.len
    obtain ⟨b, off, rfl⟩ : ∃ b off, a = some ⟨b, off, none⟩ := by
      rcases hS with ⟨rfl, _⟩ | ⟨b, off, cap, e, _⟩
      · simp at h
      · cases e; exact ⟨b, off, rfl⟩
    by_cases h2 : 4096 < lenOf (l.drop p)
    · exact rread_long b off c p l hl hp w hS (by omega) h2
    · by_cases h3 : (l.drop p).length < lenOf (l.drop p) + 7
      · exact rread_cutoff b off c p l hl hp w hS (by omega) h2 h3
      · cases h4 : openL ((l.drop p).take (lenOf (l.drop p) + 7)) with
        | none => exact rread_bad b off c p l hl hp w hS (by omega) h2 h3 h4
        | some s =>
          have e := (openL_some h4).2.1
          have e2 : ((l.drop p).take (lenOf (l.drop p) + 7)).take (((l.drop p).take (lenOf (l.drop p) + 7)).length - 4) = (l.drop p).take (lenOf (l.drop p) + 3) := by
            rw [List.length_take, List.take_take]; congr 1; omega
          rw [e2] at e
          rw [e] at h4
          by_cases h5 : (l.drop p).getD 2 0 = 0
          · exact rread_zero b off c p l hl hp w hS (by omega) h2 h3 h4 h5
          · exact rread_good b off c p l hl hp w hS (by omega) h2 h3 h4 h5
end Go.Proofs.Ytfhigngfohfclaa
