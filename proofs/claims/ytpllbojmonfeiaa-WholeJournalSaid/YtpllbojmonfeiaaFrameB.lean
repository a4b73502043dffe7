/- The contract of frame.Read. -/
import Derived.Test.YtpllbojmonfeiaaFrameA
import Derived.BigQuiet
import Derived.Deep.QuietTactic
import Derived.Deep.DeepCutAuto
namespace Go.Proofs.Ytpllbojmonfeiaa
open Go.RowKit SumM
set_option linter.unusedVariables false

def ReadTo (w : World) (l : List Nat) (e : Ending) (w' : World) : Prop :=
  ∃ v, e = .returned (.tuple #[.agg #[.int .i64 (readK l), v], .int .i64 (readN l), .int .i64 (readE l)]) ∧ Sl encY w'.heap.size w' v (readB l) ∧ Below w.heap.size w w'
theorem readTo_bad {w w' : World} {l : List Nat} {n : Nat} (h : readE l = n) (h0 : n ≠ 0) (hb : Below w.heap.size w w') : ReadTo w l (.returned (.tuple #[.agg #[.int .i64 0, .slice none 0 0], .int .i64 0, .int .i64 n])) w' := by
  refine ⟨.slice none 0 0, ?_, ?_, hb⟩
  · rw [h, show readK l = 0 from if_neg (by rw [h]; exact h0), show readN l = 0 from if_neg (by rw [h]; exact h0)]; rfl
  · rw [show readB l = [] from if_neg (by rw [h]; exact h0)]; exact Sl.nil _ _ _
theorem zframe (w : World) : (zeroValue 82).run Try.prog w = .ok (.agg #[.int .i64 0, .slice none 0 0]) w := by kernel_rfl
theorem i64_or_nat (x y : Nat) (hx : x < 256) (hy : y < 256) : bits .or .i64 (x : Int) ((y : Int) * 256) = ((x + 256 * y : Nat) : Int) := by
  have h1 : bits .or .i64 (x : Int) ((y * 256 : Nat) : Int) = ((x ||| y * 256 : Nat) : Int) := by
    have e1 : BitVec.ofInt 64 (x : Int) = BitVec.ofNat 64 x := by simp
    have e2 : BitVec.ofInt 64 ((y * 256 : Nat) : Int) = BitVec.ofNat 64 (y * 256) := BitVec.ofInt_natCast _ _
    show IntKind.i64.wrap ((BitVec.ofInt 64 (x : Int) ||| BitVec.ofInt 64 ((y * 256 : Nat) : Int)).toNat : Nat) = _
    have hlt : x ||| y * 256 < 2 ^ 16 := Nat.or_lt_two_pow (by omega) (by omega)
    rw [e1, e2, BitVec.toNat_or, BitVec.toNat_ofNat, BitVec.toNat_ofNat, Nat.mod_eq_of_lt (by omega), Nat.mod_eq_of_lt (by omega), IntKind.wrap_i64]
    omega
  have h2 : x ||| y * 256 = x + 256 * y := by
    have := Nat.two_pow_add_eq_or_of_lt (i := 8) (b := x) (by omega) y
    rw [Nat.or_comm, Nat.mul_comm y 256]
    rw [show (256 : Nat) = 2 ^ 8 from rfl, ← this]; omega
  rw [show ((y : Int) * 256) = ((y * 256 : Nat) : Int) from (Int.natCast_mul _ _).symm, h1, h2]
theorem frame_res (tmps : Array Value) (w : World) (b : Nat) (k v n e : Value) (fr : Nat × Nat) (hp : tmps.getD 2 undef = .pointer (some ⟨b, 0, none⟩)) (h3 : tmps.getD 3 undef = n) (h4 : tmps.getD 4 undef = e)
    (hg : w.heap[b]? = some (.cells #[k, v] 82 fr)) : (results Try.f84 tmps).run Try.prog w = .ok (.tuple #[.agg #[k, v], n, e]) w := by
  have hp' : tmps[2]?.getD undef = .pointer (some ⟨b, 0, none⟩) := by simpa using hp
  have h3' : tmps[3]?.getD undef = n := by simpa using h3
  have h4' : tmps[4]?.getD undef = e := by simpa using h4
  have k1 := run_loadVar_row (P := Try.prog) w b 82 82 #[k, v] fr _ hg Try.underlying82 rfl (by kernel_rfl)
  simp [results, hp', h3', h4', asAddr, k1]
theorem heap_set2 {W : World} {b : Nat} {t : TypeId} {x y k v : Value} (h : W.heap[b]? = some (.cells #[x, y] t (0, 0))) : ((W.setCell ⟨b, 0, none⟩ k).setCell ⟨b, 1, none⟩ v).heap[b]? = some (.cells #[k, v] t (0, 0)) :=
  heap_setCell_same _ b 1 _ t v (heap_setCell_same W b 0 _ t k h)
theorem weight_nat (n s : Nat) (h : n ≤ 1048576) (hs : n + 7 = s) (w : World) : Calls Try.prog 45 #[.int .i64 n] w fun e w' => e = .returned (.int .i64 (s : Nat)) ∧ w = w' := by
  refine (weight_any n w (by omega)).mono ?_
  rintro e w' ⟨rfl, rfl⟩
  exact ⟨congrArg (fun z : Int => Ending.returned (.int .i64 z)) (by omega), rfl⟩
theorem below_set2 {B : Nat} {w W : World} {b : Nat} {u v : Value} (h : Below B w W) (hb : B ≤ b) : Below B w ((W.setCell ⟨b, 0, none⟩ u).setCell ⟨b, 1, none⟩ v) := (h.setCell (p := ⟨b, 0, none⟩) hb _).setCell (p := ⟨b, 1, none⟩) hb _
theorem cell2 {W : World} {b : Nat} {t : TypeId} {x y : Value} (h : W.heap[b]? = some (.cells #[x, y] t (0, 0))) : W.cell? ⟨b, 0, none⟩ = some x ∧ W.cell? ⟨b, 1, none⟩ = some y ∧ W.frozen? ⟨b, 0, none⟩ = false ∧ W.frozen? ⟨b, 1, none⟩ = false := by
  refine ⟨?_, ?_, ?_, ?_⟩ <;> simp [World.cell?, World.frozen?, h]
abbrev frameNew (w : World) : World := w.alloc (.cells #[.int .i64 0, .slice none 0 0] 82)
theorem frameNew_at (w : World) : (frameNew w).heap[w.heap.size]? = some (.cells #[.int .i64 0, .slice none 0 0] 82 (0, 0)) := World.alloc_heap_new w _
theorem frameNew_below (w : World) : Below w.heap.size w (frameNew w) := (Below.refl _ _).alloc (Nat.le_refl _) _

set_option maxRecDepth 100000 in
set_option maxHeartbeats 1000000 in
theorem read_short (a : Option Addr) (n c : Nat) (l : List Nat) (w : World) (hS : Sl encY w.heap.size w (.slice a n c) l) (h : l.length < 2) :
    Calls Try.prog 84 #[.slice a n c] w (ReadTo w l) := by
  have hz := zframe
  obtain rfl := hS.len
  have HE : Hid (readE l = 21) := Lib.hid (if_pos h)
  obtain ⟨n, hn⟩ : ∃ n, l.length = n := ⟨_, rfl⟩
  rw [hn] at h ⊢
  clear hn hS
  go_enter Try.func84, Try.ntmps84
  go_wp2
  refine bodyPost_ret (frame_res _ _ w.heap.size _ _ _ _ (0, 0) rfl rfl rfl (World.alloc_heap_new w _)) rfl (readTo_bad HE.out (by decide) ?_)
  exact ((Below.refl _ _).alloc (Nat.le_refl _) _)
set_option maxRecDepth 100000 in
set_option maxHeartbeats 2000000 in
theorem read_long (b off c : Nat) (l : List Nat) (hl : Bytes l) (w : World) (hS : Sl encY w.heap.size w (.slice (some ⟨b, off, none⟩) l.length c) l) (h : 2 ≤ l.length) (h2 : 4096 < lenOf l) :
    Calls Try.prog 84 #[.slice (some ⟨b, off, none⟩) l.length c] w (ReadTo w l) := by
  have hz := zframe
  have HE : Hid (readE l = 2) := Lib.hid (by unfold readE; rw [if_neg (by omega), if_pos h2])
  have LN : 2 ≤ l.length := h
  obtain ⟨x, hx⟩ : ∃ x, l[0]? = some x := ⟨_, List.getElem?_eq_getElem (by omega)⟩
  obtain ⟨y, hy⟩ : ∃ y, l[1]? = some y := ⟨_, List.getElem?_eq_getElem (by omega)⟩
  have hxb := hl.2 x (List.mem_of_getElem? hx)
  have hyb := hl.2 y (List.mem_of_getElem? hy)
  obtain ⟨b0, o0, e0, hb0, hc0⟩ := hS.at_ hx
  obtain ⟨b1, o1, e1, hb1, hc1⟩ := hS.at_ hy
  cases e0; cases e1
  have hor := i64_or_nat x y hxb hyb
  have k0 : w.cell? ⟨b, off, none⟩ = some (.int .u8 (x : Int)) := hc0
  have k1 : w.cell? ⟨b, off + 1, none⟩ = some (.int .u8 (y : Int)) := hc1
  have hle : lenOf l = x + 256 * y := by unfold lenOf; simp [List.getD, hx, hy]
  obtain ⟨q, hq⟩ : ∃ q, lenOf l = q := ⟨_, rfl⟩
  rw [← hle, hq] at hor
  rw [hq] at h2
  clear LN
  have LN : l.length = l.length := rfl
  have hl1 := hl.1
  have hcap := hS.capb
  obtain ⟨n, hn⟩ : ∃ n, l.length = n := ⟨_, rfl⟩
  rw [hn] at h hl1 hcap LN ⊢
  have g0 : 0 < n := by omega
  have g1 : (1 : Int) < n := by omega
  have g2 : (0 : Int) < n := by omega
  have g3 : 1 < n := by omega
  clear hn hS hx hy hl hle hq hc0 hc1
  go_enter Try.func84, Try.ntmps84
  go_wp2
  go_quiet (fail)
  have hR : (((frameNew w).drewN nq)).heap[w.heap.size]? = some (.cells #[.int .i64 0, .slice none 0 0] 82 (0, 0)) := frameNew_at w
  have hBW : Below w.heap.size w ((frameNew w).drewN nq) := Below.drewN_r (frameNew_below w) nq
  clear LN
  go_wp2
  refine bodyPost_ret (frame_res _ _ w.heap.size _ _ _ _ (0, 0) rfl rfl rfl (heap_set2 hR)) rfl (readTo_bad HE.out (by decide) (below_set2 hBW (Nat.le_refl _)))

set_option maxRecDepth 100000 in
set_option maxHeartbeats 2000000 in
theorem read_cutoff (b off c : Nat) (l : List Nat) (hl : Bytes l) (w : World) (hS : Sl encY w.heap.size w (.slice (some ⟨b, off, none⟩) l.length c) l) (h : 2 ≤ l.length) (h2 : ¬ 4096 < lenOf l) (h3 : l.length < lenOf l + 7) :
    Calls Try.prog 84 #[.slice (some ⟨b, off, none⟩) l.length c] w (ReadTo w l) := by
  have hz := zframe
  have HE : Hid (readE l = 21) := Lib.hid (by unfold readE; rw [if_neg (by omega), if_neg h2, if_pos h3])
  obtain ⟨x, hx⟩ : ∃ x, l[0]? = some x := ⟨_, List.getElem?_eq_getElem (by omega)⟩
  obtain ⟨y, hy⟩ : ∃ y, l[1]? = some y := ⟨_, List.getElem?_eq_getElem (by omega)⟩
  have hxb := hl.2 x (List.mem_of_getElem? hx)
  have hyb := hl.2 y (List.mem_of_getElem? hy)
  obtain ⟨b0, o0, e0, hb0, hc0⟩ := hS.at_ hx
  obtain ⟨b1, o1, e1, hb1, hc1⟩ := hS.at_ hy
  cases e0; cases e1
  have hor := i64_or_nat x y hxb hyb
  have k0 : w.cell? ⟨b, off, none⟩ = some (.int .u8 (x : Int)) := hc0
  have k1 : w.cell? ⟨b, off + 1, none⟩ = some (.int .u8 (y : Int)) := hc1
  have hle : lenOf l = x + 256 * y := by unfold lenOf; simp [List.getD, hx, hy]
  obtain ⟨q, hq⟩ : ∃ q, lenOf l = q := ⟨_, rfl⟩
  rw [← hle, hq] at hor
  rw [hq] at h2
  obtain ⟨s, hs⟩ : ∃ s, q + 7 = s := ⟨_, rfl⟩
  rw [hq, hs] at h3
  have LN := h3
  have HS := Lib.hid hs
  clear hs
  have hl1 := hl.1
  have hcap := hS.capb
  obtain ⟨n, hn⟩ : ∃ n, l.length = n := ⟨_, rfl⟩
  rw [hn] at h hl1 hcap LN ⊢
  have g0 : 0 < n := by omega
  have g1 : (1 : Int) < n := by omega
  have g2 : (0 : Int) < n := by omega
  have g3 : 1 < n := by omega
  clear hn hS hx hy hl hle hq hc0 hc1
  go_enter Try.func84, Try.ntmps84
  go_wp2
  go_quiet (fail)
  have hR : (((frameNew w).drewN nq)).heap[w.heap.size]? = some (.cells #[.int .i64 0, .slice none 0 0] 82 (0, 0)) := frameNew_at w
  have hBW : Below w.heap.size w ((frameNew w).drewN nq) := Below.drewN_r (frameNew_below w) nq
  go_wp2_with (go_at_call 45; refine (weight_nat q s (by omega) HS.out _).mono ?_; rintro e w' ⟨rfl, rfl⟩)
  refine bodyPost_ret (frame_res _ _ w.heap.size _ _ _ _ (0, 0) rfl rfl rfl (heap_set2 hR)) rfl (readTo_bad HE.out (by decide) (below_set2 hBW (Nat.le_refl _)))

set_option maxRecDepth 100000 in
set_option maxHeartbeats 2000000 in
theorem read_bad (b off c : Nat) (l : List Nat) (hl : Bytes l) (w : World) (hS : Sl encY w.heap.size w (.slice (some ⟨b, off, none⟩) l.length c) l) (h : 2 ≤ l.length) (h2 : ¬ 4096 < lenOf l) (h3 : ¬ l.length < lenOf l + 7) (h4 : openL (l.take (lenOf l + 7)) = none) :
    Calls Try.prog 84 #[.slice (some ⟨b, off, none⟩) l.length c] w (ReadTo w l) := by
  have hz := zframe
  have HE : Hid (readE l = 22) := Lib.hid (by unfold readE; rw [if_neg (by omega), if_neg h2, if_neg h3, if_pos h4])
  obtain ⟨x, hx⟩ : ∃ x, l[0]? = some x := ⟨_, List.getElem?_eq_getElem (by omega)⟩
  obtain ⟨y, hy⟩ : ∃ y, l[1]? = some y := ⟨_, List.getElem?_eq_getElem (by omega)⟩
  have hxb := hl.2 x (List.mem_of_getElem? hx)
  have hyb := hl.2 y (List.mem_of_getElem? hy)
  obtain ⟨b0, o0, e0, hb0, hc0⟩ := hS.at_ hx
  obtain ⟨b1, o1, e1, hb1, hc1⟩ := hS.at_ hy
  cases e0; cases e1
  have hor := i64_or_nat x y hxb hyb
  have k0 : w.cell? ⟨b, off, none⟩ = some (.int .u8 (x : Int)) := hc0
  have k1 : w.cell? ⟨b, off + 1, none⟩ = some (.int .u8 (y : Int)) := hc1
  have hle : lenOf l = x + 256 * y := by unfold lenOf; simp [List.getD, hx, hy]
  obtain ⟨q, hq⟩ : ∃ q, lenOf l = q := ⟨_, rfl⟩
  rw [← hle, hq] at hor
  rw [hq] at h2
  obtain ⟨s, hs⟩ : ∃ s, q + 7 = s := ⟨_, rfl⟩
  rw [hq, hs] at h3
  have LN : s ≤ l.length := by omega
  have HSS := Lib.hid hs
  have hs7 : 7 ≤ s := by omega
  have htk := hS.cut (k := s) LN s (Nat.le_refl _)
  have htb : Bytes (l.take s) := ⟨by have := hl.1; simp; omega, fun z hz => hl.2 z (List.mem_of_mem_take hz)⟩
  have hop : openL (l.take s) = none := by rw [← hs, ← hq]; exact h4
  clear h4
  have HTK := Lib.hid (fun (W : World) (hb : Below w.heap.size w W) => open_any _ s s (l.take s) htb W ((htk.below hb).mono hb.size))
  rw [hop] at HTK
  clear htk htb hs hop

  have hl1 := hl.1
  have hcap := hS.capb
  obtain ⟨n, hn⟩ : ∃ n, l.length = n := ⟨_, rfl⟩
  rw [hn] at h hl1 hcap LN ⊢
  have g0 : 0 < n := by omega
  have g1 : (1 : Int) < n := by omega
  have g2 : (0 : Int) < n := by omega
  have g3 : 1 < n := by omega
  clear hn hS hx hy hl hle hq hc0 hc1
  go_enter Try.func84, Try.ntmps84
  go_wp2
  go_quiet (fail)
  have hR : (((frameNew w).drewN nq)).heap[w.heap.size]? = some (.cells #[.int .i64 0, .slice none 0 0] 82 (0, 0)) := frameNew_at w
  have hBW : Below w.heap.size w ((frameNew w).drewN nq) := Below.drewN_r (frameNew_below w) nq
  have HR := Lib.hid hR
  go_upto_region 10 with (first | (go_at_call 45; refine (weight_nat q s (by omega) HSS.out _).mono ?_; rintro e w' ⟨rfl, rfl⟩) | (go_at_call 91; refine (HTK.out _ hBW).mono ?_; rintro e w2 ⟨v2, rfl, hS2, hb2⟩; have H2 := Lib.hid hS2; clear hS2))
  have hR2 := (hb2.block w.heap.size (Array.getElem?_eq_some_iff.1 HR.out).1).trans HR.out
  have hB2 := hBW.trans (hb2.mono hBW.size)
  have HR2 := Lib.hid hR2
  obtain ⟨f1, f2, f3, f4⟩ := cell2 hR2
  clear hR2 hR
  go_wp2
  refine bodyPost_ret (frame_res _ _ w.heap.size _ _ _ _ (0, 0) rfl rfl rfl (heap_set2 HR2.out)) rfl (readTo_bad HE.out (by decide) (below_set2 hB2 (Nat.le_refl _)))

set_option maxRecDepth 100000 in
set_option maxHeartbeats 2000000 in
theorem read_zero (b off c : Nat) (l : List Nat) (hl : Bytes l) (w : World) (hS : Sl encY w.heap.size w (.slice (some ⟨b, off, none⟩) l.length c) l) (h : 2 ≤ l.length) (h2 : ¬ 4096 < lenOf l) (h3 : ¬ l.length < lenOf l + 7) (h4 : openL (l.take (lenOf l + 7)) = some (l.take (lenOf l + 3))) (h5 : l.getD 2 0 = 0) :
    Calls Try.prog 84 #[.slice (some ⟨b, off, none⟩) l.length c] w (ReadTo w l) := by
  have hz := zframe
  have HE : Hid (readE l = 20) := Lib.hid (by unfold readE; rw [if_neg (by omega), if_neg h2, if_neg h3, if_neg (by rw [h4]; simp), if_pos h5])
  obtain ⟨x, hx⟩ : ∃ x, l[0]? = some x := ⟨_, List.getElem?_eq_getElem (by omega)⟩
  obtain ⟨y, hy⟩ : ∃ y, l[1]? = some y := ⟨_, List.getElem?_eq_getElem (by omega)⟩
  have hxb := hl.2 x (List.mem_of_getElem? hx)
  have hyb := hl.2 y (List.mem_of_getElem? hy)
  obtain ⟨b0, o0, e0, hb0, hc0⟩ := hS.at_ hx
  obtain ⟨b1, o1, e1, hb1, hc1⟩ := hS.at_ hy
  cases e0; cases e1
  have hor := i64_or_nat x y hxb hyb
  have k0 : w.cell? ⟨b, off, none⟩ = some (.int .u8 (x : Int)) := hc0
  have k1 : w.cell? ⟨b, off + 1, none⟩ = some (.int .u8 (y : Int)) := hc1
  have hle : lenOf l = x + 256 * y := by unfold lenOf; simp [List.getD, hx, hy]
  obtain ⟨q, hq⟩ : ∃ q, lenOf l = q := ⟨_, rfl⟩
  rw [← hle, hq] at hor
  rw [hq] at h2
  obtain ⟨s, hs⟩ : ∃ s, q + 7 = s := ⟨_, rfl⟩
  rw [hq, hs] at h3
  have LN : s ≤ l.length := by omega
  have HSS := Lib.hid hs
  have hs7 : 7 ≤ s := by omega
  have htk := hS.cut (k := s) LN s (Nat.le_refl _)
  have htb : Bytes (l.take s) := ⟨by have := hl.1; simp; omega, fun z hz => hl.2 z (List.mem_of_mem_take hz)⟩
  have hop : openL (l.take s) = some (l.take (lenOf l + 3)) := by rw [← hs, ← hq]; exact h4
  clear h4
  rw [hq] at hop
  obtain ⟨z, hz2⟩ : ∃ z, l[2]? = some z := ⟨_, List.getElem?_eq_getElem (by omega)⟩
  have hzb := hl.2 z (List.mem_of_getElem? hz2)
  have h5' : l.getD 2 0 = z := by simp [List.getD, hz2]
  rw [h5'] at h5
  clear h5'
  have hz3 : (l.take (q + 3))[2]? = some z := by rw [List.getElem?_take, if_pos (by omega)]; exact hz2
  have hlt3 : (l.take (q + 3)).length = q + 3 := by rw [List.length_take]; omega
  have HZ := Lib.hid hz3
  have HL3 := Lib.hid hlt3
  clear hz2 hz3 hlt3
  have hz0 : ((z : Int) == 0) = true := by rw [h5]; rfl
  clear h5
  have HTK := Lib.hid (fun (W : World) (hb : Below w.heap.size w W) => open_any _ s s (l.take s) htb W ((htk.below hb).mono hb.size))
  rw [hop] at HTK
  clear htk htb hs hop

  have hl1 := hl.1
  have hcap := hS.capb
  obtain ⟨n, hn⟩ : ∃ n, l.length = n := ⟨_, rfl⟩
  rw [hn] at h hl1 hcap LN ⊢
  have g0 : 0 < n := by omega
  have g1 : (1 : Int) < n := by omega
  have g2 : (0 : Int) < n := by omega
  have g3 : 1 < n := by omega
  clear hn hS hx hy hl hle hq hc0 hc1
  go_enter Try.func84, Try.ntmps84
  go_wp2
  go_quiet (fail)
  have hR : (((frameNew w).drewN nq)).heap[w.heap.size]? = some (.cells #[.int .i64 0, .slice none 0 0] 82 (0, 0)) := frameNew_at w
  have hBW : Below w.heap.size w ((frameNew w).drewN nq) := Below.drewN_r (frameNew_below w) nq
  have HR := Lib.hid hR
  go_upto_region 12 with (first | (go_at_call 45; refine (weight_nat q s (by omega) HSS.out _).mono ?_; rintro e w' ⟨rfl, rfl⟩) | (go_at_call 91; refine (HTK.out _ hBW).mono ?_; rintro e w2 ⟨v2, rfl, hS2, hb2⟩; have H2 := Lib.hid hS2; clear hS2))
  have hR2 := (hb2.block w.heap.size (Array.getElem?_eq_some_iff.1 HR.out).1).trans HR.out
  have hB2 := hBW.trans (hb2.mono hBW.size)
  have hS2 : Sl encY w2.heap.size w2 v2 (l.take (q + 3)) := H2.out
  obtain ⟨b2, o2, c2, rfl, hc2, hcc2⟩ : ∃ b2 o2 c2, v2 = .slice (some ⟨b2, o2, none⟩) (q + 3) c2 ∧ w2.cell? ⟨b2, o2 + 2, none⟩ = some (.int .u8 (z : Int)) ∧ q + 3 ≤ c2 := by
    obtain ⟨a, c, rfl⟩ := hS2.form
    rw [HL3.out] at hS2 ⊢
    obtain ⟨b2, o2, rfl, _, hcz⟩ := hS2.at_ HZ.out
    exact ⟨b2, o2, c, rfl, hcz, hS2.capb⟩
  have HS2 := Lib.hid hS2
  have HR2 := Lib.hid hR2
  obtain ⟨f1, f2, f3, f4⟩ := cell2 hR2
  obtain ⟨t, ht⟩ : ∃ t, q + 3 = t := ⟨_, rfl⟩
  rw [ht] at hcc2 HS2 ⊢
  have u1 : 2 < t := by omega
  have u2 : (2 : Int) < t := by omega
  clear hS2 hR2 H2 HTK hR
  go_wp2
  refine bodyPost_ret (frame_res _ _ w.heap.size _ _ _ _ (0, 0) rfl rfl rfl (heap_set2 HR2.out)) rfl (readTo_bad HE.out (by decide) (below_set2 hB2 (Nat.le_refl _)))

set_option maxRecDepth 100000 in
set_option maxHeartbeats 2000000 in
theorem read_good (b off c : Nat) (l : List Nat) (hl : Bytes l) (w : World) (hS : Sl encY w.heap.size w (.slice (some ⟨b, off, none⟩) l.length c) l) (h : 2 ≤ l.length) (h2 : ¬ 4096 < lenOf l) (h3 : ¬ l.length < lenOf l + 7) (h4 : openL (l.take (lenOf l + 7)) = some (l.take (lenOf l + 3))) (h5 : l.getD 2 0 ≠ 0) :
    Calls Try.prog 84 #[.slice (some ⟨b, off, none⟩) l.length c] w (ReadTo w l) := by
  have hz := zframe
  have HE : Hid (readE l = 0) := Lib.hid (by unfold readE; rw [if_neg (by omega), if_neg h2, if_neg h3, if_neg (by rw [h4]; simp), if_neg h5])
  have HEN : Hid (readN l = lenOf l + 7) := Lib.hid (by unfold readN; rw [if_pos HE.out])
  have HEK : Hid (readK l = l.getD 2 0) := Lib.hid (by unfold readK; rw [if_pos HE.out])
  have HEB : Hid (readB l = (l.take (lenOf l + 3)).drop 3) := Lib.hid (by unfold readB; rw [if_pos HE.out])
  obtain ⟨x, hx⟩ : ∃ x, l[0]? = some x := ⟨_, List.getElem?_eq_getElem (by omega)⟩
  obtain ⟨y, hy⟩ : ∃ y, l[1]? = some y := ⟨_, List.getElem?_eq_getElem (by omega)⟩
  have hxb := hl.2 x (List.mem_of_getElem? hx)
  have hyb := hl.2 y (List.mem_of_getElem? hy)
  obtain ⟨b0, o0, e0, hb0, hc0⟩ := hS.at_ hx
  obtain ⟨b1, o1, e1, hb1, hc1⟩ := hS.at_ hy
  cases e0; cases e1
  have hor := i64_or_nat x y hxb hyb
  have k0 : w.cell? ⟨b, off, none⟩ = some (.int .u8 (x : Int)) := hc0
  have k1 : w.cell? ⟨b, off + 1, none⟩ = some (.int .u8 (y : Int)) := hc1
  have hle : lenOf l = x + 256 * y := by unfold lenOf; simp [List.getD, hx, hy]
  obtain ⟨q, hq⟩ : ∃ q, lenOf l = q := ⟨_, rfl⟩
  rw [← hle, hq] at hor
  rw [hq] at h2
  obtain ⟨s, hs⟩ : ∃ s, q + 7 = s := ⟨_, rfl⟩
  rw [hq, hs] at h3
  have LN : s ≤ l.length := by omega
  have HSS := Lib.hid hs
  have hs7 : 7 ≤ s := by omega
  have htk := hS.cut (k := s) LN s (Nat.le_refl _)
  have htb : Bytes (l.take s) := ⟨by have := hl.1; simp; omega, fun z hz => hl.2 z (List.mem_of_mem_take hz)⟩
  have hop : openL (l.take s) = some (l.take (lenOf l + 3)) := by rw [← hs, ← hq]; exact h4
  clear h4
  rw [hq] at hop HEB HEN
  rw [hs] at HEN
  obtain ⟨z, hz2⟩ : ∃ z, l[2]? = some z := ⟨_, List.getElem?_eq_getElem (by omega)⟩
  have hzb := hl.2 z (List.mem_of_getElem? hz2)
  have h5' : l.getD 2 0 = z := by simp [List.getD, hz2]
  rw [h5'] at h5 HEK
  clear h5'
  have hz3 : (l.take (q + 3))[2]? = some z := by rw [List.getElem?_take, if_pos (by omega)]; exact hz2
  have hlt3 : (l.take (q + 3)).length = q + 3 := by rw [List.length_take]; omega
  have HZ := Lib.hid hz3
  have HL3 := Lib.hid hlt3
  clear hz2 hz3 hlt3
  have hz0 : ((z : Int) == 0) = false := beq_eq_false_iff_ne.2 (by omega)
  have HTK := Lib.hid (fun (W : World) (hb : Below w.heap.size w W) => open_any _ s s (l.take s) htb W ((htk.below hb).mono hb.size))
  rw [hop] at HTK
  clear htk htb hs hop

  have hl1 := hl.1
  have hcap := hS.capb
  obtain ⟨n, hn⟩ : ∃ n, l.length = n := ⟨_, rfl⟩
  rw [hn] at h hl1 hcap LN ⊢
  have g0 : 0 < n := by omega
  have g1 : (1 : Int) < n := by omega
  have g2 : (0 : Int) < n := by omega
  have g3 : 1 < n := by omega
  clear hn hS hx hy hl hle hq hc0 hc1
  go_enter Try.func84, Try.ntmps84
  go_wp2
  go_quiet (fail)
  have hR : (((frameNew w).drewN nq)).heap[w.heap.size]? = some (.cells #[.int .i64 0, .slice none 0 0] 82 (0, 0)) := frameNew_at w
  have hBW : Below w.heap.size w ((frameNew w).drewN nq) := Below.drewN_r (frameNew_below w) nq
  have HR := Lib.hid hR
  go_upto_region 12 with (first | (go_at_call 45; refine (weight_nat q s (by omega) HSS.out _).mono ?_; rintro e w' ⟨rfl, rfl⟩) | (go_at_call 91; refine (HTK.out _ hBW).mono ?_; rintro e w2 ⟨v2, rfl, hS2, hb2⟩; have H2 := Lib.hid hS2; clear hS2))
  have hR2 := (hb2.block w.heap.size (Array.getElem?_eq_some_iff.1 HR.out).1).trans HR.out
  have hB2 := hBW.trans (hb2.mono hBW.size)
  have hS2 : Sl encY w2.heap.size w2 v2 (l.take (q + 3)) := H2.out
  obtain ⟨b2, o2, c2, rfl, hc2, hcc2⟩ : ∃ b2 o2 c2, v2 = .slice (some ⟨b2, o2, none⟩) (q + 3) c2 ∧ w2.cell? ⟨b2, o2 + 2, none⟩ = some (.int .u8 (z : Int)) ∧ q + 3 ≤ c2 := by
    obtain ⟨a, c, rfl⟩ := hS2.form
    rw [HL3.out] at hS2 ⊢
    obtain ⟨b2, o2, rfl, _, hcz⟩ := hS2.at_ HZ.out
    exact ⟨b2, o2, c, rfl, hcz, hS2.capb⟩
  have HS2 := Lib.hid hS2
  have HR2 := Lib.hid hR2
  obtain ⟨f1, f2, f3, f4⟩ := cell2 hR2
  obtain ⟨t, ht⟩ : ∃ t, q + 3 = t := ⟨_, rfl⟩
  rw [ht] at hcc2 HS2 ⊢
  have u1 : 2 < t := by omega
  have u2 : (2 : Int) < t := by omega
  clear hS2 hR2 H2 HTK hR
  have hdr : ∀ m, (l.take t).drop 3 = m → m = readB l := by rintro m rfl; rw [HEB.out, ht]
  have HTL := Lib.hid ht
  have hti : (3 : Int) ≤ t := by omega
  have htn : 3 ≤ t := by omega
  have hne : b2 ≠ w.heap.size := by
    rintro rfl
    have h9 := HR2.out
    simp [World.cell?, h9] at hc2
  by_cases hc3 : 3 = c2
  · have htc : t = 3 := by omega
    subst htc
    subst hc3
    go_wp2
    refine bodyPost_ret (frame_res _ _ w.heap.size _ _ _ _ (0, 0) rfl rfl rfl (heap_set2 HR2.out)) rfl ⟨_, by rw [HE.out, HEN.out, HEK.out]; rfl, ?_, below_set2 hB2 (Nat.le_refl _)⟩
    rw [← hdr _ rfl]
    exact .inl ⟨by simp, some ⟨b2, o2, none⟩, 0, rfl, fun h => by cases h⟩
  · have hc3' : 3 < c2 := by omega
    go_wp2
    refine bodyPost_ret (frame_res _ _ w.heap.size _ _ _ _ (0, 0) rfl rfl rfl (heap_set2 HR2.out)) rfl ⟨_, by rw [HE.out, HEN.out, HEK.out]; rfl, ?_, below_set2 hB2 (Nat.le_refl _)⟩
    rw [← hdr _ rfl]
    have h9 := HS2.out.from_ htn
    have h8 := (h9.set hne (j := 0) (.int .i64 (z : Int))).set hne (j := 1) (.slice (some ⟨b2, o2 + 3, none⟩) (t - 3) (c2 - 3))
    simpa using h8

theorem read_any (a : Option Addr) (n c : Nat) (l : List Nat) (hl : Bytes l) (w : World) (hS : Sl encY w.heap.size w (.slice a n c) l) :
    Calls Try.prog 84 #[.slice a n c] w (ReadTo w l) := by
  by_cases h : l.length < 2
  · exact read_short a n c l w hS h
  · obtain rfl := hS.len
    obtain ⟨b, off, rfl⟩ : ∃ b off, a = some ⟨b, off, none⟩ := by
      rcases hS with ⟨rfl, _⟩ | ⟨b, off, cap, e, _⟩
      · simp at h
      · cases e; exact ⟨b, off, rfl⟩
    by_cases h2 : 4096 < lenOf l
    · exact read_long b off c l hl w hS (by omega) h2
    · by_cases h3 : l.length < lenOf l + 7
      · exact read_cutoff b off c l hl w hS (by omega) h2 h3
      · cases h4 : openL (l.take (lenOf l + 7)) with
        | none => exact read_bad b off c l hl w hS (by omega) h2 h3 h4
        | some s =>
          have e := (openL_some h4).2.1
          have e2 : (l.take (lenOf l + 7)).take ((l.take (lenOf l + 7)).length - 4) = l.take (lenOf l + 3) := by
            rw [List.length_take, List.take_take]; congr 1; omega
          rw [e2] at e
          rw [e] at h4
          by_cases h5 : l.getD 2 0 = 0
          · exact read_zero b off c l hl w hS (by omega) h2 h3 h4 h5
          · exact read_good b off c l hl w hS (by omega) h2 h3 h4 h5
end Go.Proofs.Ytpllbojmonfeiaa
