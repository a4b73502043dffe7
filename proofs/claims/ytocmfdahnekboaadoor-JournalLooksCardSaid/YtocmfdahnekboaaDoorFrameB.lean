/- Frames as lists of bytes. -/
import Derived.Test.YtocmfdahnekboaaDoorSumRef
import Derived.RegionTactic
import Derived.Laws.BitsLemmas
import Derived.BigQuiet
import Derived.Deep.QuietTactic
import Derived.Deep.DeepCutAuto
namespace Go.Proofs.YtocmfdahnekboaaDoor
open Go.RowKit SumM
set_option linter.unusedVariables false

/-- A frame's bytes. -/
def headF (k : Nat) (l : List Nat) : List Nat := [l.length % 256, l.length / 256, k]
def frameL (k : Nat) (l : List Nat) : List Nat := sealL (headF k l ++ l)
theorem frame_len (k : Nat) (l : List Nat) : (frameL k l).length = l.length + 7 := by
  unfold frameL headF; rw [seal_len]; simp
def writeE (k : Int) (l : List Nat) : Nat := if k < 1 ∨ 255 < k then 1 else if 4096 < l.length then 2 else 0
def writeL (k : Int) (l : List Nat) : List Nat := if writeE k l = 0 then frameL k.toNat l else []
/-- How long a frame says its body is. -/
def lenOf (l : List Nat) : Nat := l.getD 0 0 + 256 * l.getD 1 0
def readE (l : List Nat) : Nat :=
  if l.length < 2 then 21 else if 4096 < lenOf l then 2 else if l.length < lenOf l + 7 then 21 else
  if openL (l.take (lenOf l + 7)) = none then 22 else if l.getD 2 0 = 0 then 20 else 0
def readK (l : List Nat) : Nat := if readE l = 0 then l.getD 2 0 else 0
def readB (l : List Nat) : List Nat := if readE l = 0 then (l.take (lenOf l + 3)).drop 3 else []
def readN (l : List Nat) : Nat := if readE l = 0 then lenOf l + 7 else 0

theorem openL_some {t s : List Nat} (h : openL t = some s) : 4 ≤ t.length ∧ s = t.take (t.length - 4) ∧ sealL s = t := by
  unfold openL at h
  split at h
  · cases h
  · split at h
    · rename_i h1 h2
      cases h
      exact ⟨by omega, rfl, h2⟩
    · cases h
theorem openL_seal (l : List Nat) : openL (sealL l) = some l := by
  have h : (sealL l).take ((sealL l).length - 4) = l := by rw [seal_len, Nat.add_sub_cancel, seal_take]
  unfold openL
  rw [if_neg (by rw [seal_len]; omega), h, if_pos rfl]
theorem readE_zero {l : List Nat} (h : readE l = 0) : 2 ≤ l.length ∧ lenOf l ≤ 4096 ∧ lenOf l + 7 ≤ l.length ∧ openL (l.take (lenOf l + 7)) = some (l.take (lenOf l + 3)) ∧ l.getD 2 0 ≠ 0 := by
  unfold readE at h
  split at h
  · cases h
  · split at h
    · cases h
    · split at h
      · cases h
      · split at h
        · cases h
        · rename_i h1 h2 h3 h4
          obtain ⟨s, hs⟩ := Option.ne_none_iff_exists'.1 h4
          obtain ⟨_, e, _⟩ := openL_some hs
          have : (l.take (lenOf l + 7)).take ((l.take (lenOf l + 7)).length - 4) = l.take (lenOf l + 3) := by
            rw [List.length_take, List.take_take]; congr 1; omega
          rw [this] at e
          split at h
          · cases h
          · rename_i h5
            exact ⟨by omega, by omega, by omega, by rw [hs, e], h5⟩
theorem readB_len {l : List Nat} (h : readE l = 0) : (readB l).length = lenOf l := by
  have := readE_zero h
  unfold readB
  rw [if_pos h, List.length_drop, List.length_take]; omega
theorem readN_pos {l : List Nat} (h : readE l = 0) : 7 ≤ readN l ∧ readN l ≤ l.length ∧ readN l = (readB l).length + 7 := by
  have := readE_zero h
  rw [readB_len h]
  unfold readN
  rw [if_pos h]; omega

theorem get_head (k : Nat) (l m : List Nat) : (frameL k l ++ m).getD 0 0 = l.length % 256 ∧ (frameL k l ++ m).getD 1 0 = l.length / 256 ∧ (frameL k l ++ m).getD 2 0 = k := by
  refine ⟨?_, ?_, ?_⟩ <;> simp [frameL, headF, sealL]
theorem lenOf_frame (k : Nat) (l m : List Nat) : lenOf (frameL k l ++ m) = l.length := by
  obtain ⟨h0, h1, _⟩ := get_head k l m
  unfold lenOf; rw [h0, h1]; omega
theorem take_frame (k : Nat) (l m : List Nat) : (frameL k l ++ m).take (l.length + 7) = frameL k l := by
  rw [← frame_len k l, List.take_left']; rfl
/-- What is written is read. -/
theorem read_frame (k : Nat) (l m : List Nat) (hk : k ≠ 0) (hl : l.length ≤ 4096) : readE (frameL k l ++ m) = 0 ∧ readK (frameL k l ++ m) = k ∧ readB (frameL k l ++ m) = l ∧ readN (frameL k l ++ m) = l.length + 7 := by
  have hlen := lenOf_frame k l m
  have h2 := (get_head k l m).2.2
  have hfl : (frameL k l ++ m).length = l.length + 7 + m.length := by rw [List.length_append, frame_len]
  have hE : readE (frameL k l ++ m) = 0 := by
    unfold readE
    rw [hlen, if_neg (by omega), if_neg (by omega), if_neg (by omega), take_frame, if_neg (by unfold frameL; rw [openL_seal]; simp), h2, if_neg hk]
  refine ⟨hE, ?_, ?_, ?_⟩
  · unfold readK; rw [if_pos hE, h2]
  · unfold readB
    rw [if_pos hE, hlen]
    have e : frameL k l ++ m = headF k l ++ (l ++ (sum4 (sumL (headF k l ++ l)) ++ m)) := by simp [frameL, sealL]
    rw [e, List.take_append, List.take_of_length_le (by simp [headF])]
    have h3 : (headF k l).length = 3 := rfl
    rw [List.drop_append, List.drop_of_length_le (by rw [h3]; omega), h3]
    simp
  · unfold readN; rw [if_pos hE, hlen]
/-- A proper beginning is too short. -/
theorem read_cut (k : Nat) (l : List Nat) (m : Nat) (hl : l.length ≤ 4096) (hm : m < l.length + 7) : readE ((frameL k l).take m) = 21 := by
  have hfl := frame_len k l
  have htl : ((frameL k l).take m).length = m := by rw [List.length_take]; omega
  unfold readE
  by_cases h2 : m < 2
  · rw [if_pos (by omega)]
  · have hg := get_head k l []
    rw [List.append_nil] at hg
    have hlen : lenOf ((frameL k l).take m) = l.length := by
      unfold lenOf
      have g0 : ((frameL k l).take m).getD 0 0 = (frameL k l).getD 0 0 := by simp only [List.getD, List.getElem?_take]; rw [if_pos (by omega)]
      have g1 : ((frameL k l).take m).getD 1 0 = (frameL k l).getD 1 0 := by simp only [List.getD, List.getElem?_take]; rw [if_pos (by omega)]
      rw [g0, g1, hg.1, hg.2.1]; omega
    rw [hlen, if_neg (by omega), if_neg (by omega), if_pos (by omega)]
theorem frame_bytes {k : Nat} {l : List Nat} (hk : k < 256) (hl : l.length ≤ 4096) (hb : ∀ x ∈ l, x < 256) : ∀ x ∈ frameL k l, x < 256 := by
  apply seal_bytes
  intro x hx
  rcases List.mem_append.1 hx with h | h
  · simp [headF] at h
    omega
  · exact hb x h
theorem readN_le (l : List Nat) : readN l ≤ l.length := by
  by_cases h : readE l = 0
  · exact (readN_pos h).2.1
  · unfold readN; rw [if_neg h]; omega

theorem sum4_inj {s t : Nat} (hs : s < 4294967296) (ht : t < 4294967296) (h : sum4 s = sum4 t) : s = t := by
  simp [sum4] at h
  omega
theorem xorL_take (a b : List Nat) (n : Nat) : (xorL a b).take n = xorL (a.take n) (b.take n) := by
  unfold xorL; rw [List.take_zipWith]
theorem digits_take (D n m : Nat) (h : m ≤ n) : (digits D n).take m = digits D m := by
  unfold digits
  rw [← List.map_take, List.take_range, Nat.min_eq_left h]
theorem turnL_take (l : List Nat) (D m : Nat) (h : m ≤ l.length) : (turnL l D).take m = turnL (l.take m) D := by
  unfold turnL
  rw [xorL_take, digits_take _ _ _ h, List.length_take, Nat.min_eq_left h]
/-- With bits turned within a run of 32 a frame's bytes are not read as a frame of as many. -/
theorem frame_turn (k : Nat) (l : List Nat) (hk0 : k ≠ 0) (hk : k < 256) (hl : l.length ≤ 4096) (hb : ∀ x ∈ l, x < 256) (at' m : Nat) (hat : at' < 8 * (l.length + 3)) (hm : m < 4294967296)
    (hsame : (turnL (frameL k l) (m * 2 ^ at')).drop (l.length + 3) = (frameL k l).drop (l.length + 3)) :
    (readE (turnL (frameL k l) (m * 2 ^ at')) = 0 ∧ readN (turnL (frameL k l) (m * 2 ^ at')) = l.length + 7) ↔ turnL (frameL k l) (m * 2 ^ at') = frameL k l := by
  have hfl := frame_len k l
  constructor
  · rintro ⟨h0, hn⟩
    have hz := readE_zero h0
    obtain ⟨t, ht⟩ : ∃ t, turnL (frameL k l) (m * 2 ^ at') = t := ⟨_, rfl⟩
    have htl : t.length = l.length + 7 := by rw [← ht, turnL_len, hfl]
    have hp : headF k l ++ l = (frameL k l).take (l.length + 3) := by
      have e := seal_take (headF k l ++ l)
      rw [show (headF k l ++ l).length = l.length + 3 from by simp [headF]] at e
      exact e.symm
    have hbp : ∀ x ∈ headF k l ++ l, x < 256 := by
      intro x hx
      rcases List.mem_append.1 hx with h | h
      · simp [headF] at h; omega
      · exact hb x h
    have hpl : (headF k l ++ l).length = l.length + 3 := by simp [headF]
    have hturn : t.take (l.length + 3) = turnL (headF k l ++ l) (m * 2 ^ at') := by
      rw [← ht, turnL_take _ _ _ (by omega), ← hp]
    rw [ht] at h0 hn hz hsame ⊢
    unfold readN at hn
    rw [if_pos h0] at hn
    have h3 := hz.2.2.2.1
    rw [show lenOf t = l.length from by omega, List.take_of_length_le (by omega)] at h3
    have hs := (openL_some h3).2.2
    have e1 : t.drop (l.length + 3) = sum4 (sumL (t.take (l.length + 3))) := by
      have : (sealL (t.take (l.length + 3))).drop (l.length + 3) = sum4 (sumL (t.take (l.length + 3))) := by
        unfold sealL
        rw [List.drop_append, List.drop_of_length_le (by rw [List.length_take]; omega), List.length_take, Nat.min_eq_left (by omega)]
        simp
      rw [hs] at this; exact this
    have e2 : (frameL k l).drop (l.length + 3) = sum4 (sumL (headF k l ++ l)) := by
      unfold frameL sealL
      rw [List.drop_append, List.drop_of_length_le (by rw [hpl]; omega), hpl]
      simp
    rw [e1, e2, hturn] at hsame
    have hsum := sum4_inj (sumL_lt _) (sumL_lt _) hsame
    have hsame2 := (turn_sum (headF k l ++ l) hbp at' m (by rw [hpl]; exact hat) hm).1 hsum
    rw [← hs, hturn, hsame2]
    rfl
  · intro h
    have := read_frame k l [] hk0 hl
    rw [List.append_nil] at this
    rw [h]
    exact ⟨this.1, this.2.2.2⟩

/-- The frames that stand one behind the other from a place on, each with its place, kind and body. -/
def scanL (l : List Nat) (at' : Nat) : List (Nat × Nat × List Nat) :=
  if at' < l.length then
    if h : readE (l.drop at') = 0 then (at', readK (l.drop at'), readB (l.drop at')) :: scanL l (at' + readN (l.drop at')) else []
  else []
termination_by l.length - at'
decreasing_by have := readN_pos h; omega
/-- Where the last one ends. -/
def scanE (l : List Nat) (at' : Nat) : Nat :=
  if at' < l.length then
    if h : readE (l.drop at') = 0 then scanE l (at' + readN (l.drop at')) else at'
  else at'
termination_by l.length - at'
decreasing_by have := readN_pos h; omega
/-- Why there is no more. -/
def scanW (l : List Nat) : Nat := if scanE l 0 = l.length then 0 else readE (l.drop (scanE l 0))
theorem scanL_step {l : List Nat} {a : Nat} (h : a < l.length) (hz : readE (l.drop a) = 0) : scanL l a = (a, readK (l.drop a), readB (l.drop a)) :: scanL l (a + readN (l.drop a)) := by
  rw [scanL, if_pos h, dif_pos hz]
theorem scanL_bad {l : List Nat} {a : Nat} (hz : readE (l.drop a) ≠ 0) : scanL l a = [] := by
  rw [scanL]
  simp [hz]
theorem scanL_end {l : List Nat} {a : Nat} (h : l.length ≤ a) : scanL l a = [] := by
  rw [scanL, if_neg (by omega)]
theorem scanE_step {l : List Nat} {a : Nat} (h : a < l.length) (hz : readE (l.drop a) = 0) : scanE l a = scanE l (a + readN (l.drop a)) := by
  rw [scanE, if_pos h, dif_pos hz]
theorem scanE_bad {l : List Nat} {a : Nat} (hz : readE (l.drop a) ≠ 0) : scanE l a = a := by
  rw [scanE]
  simp [hz]
theorem scanE_end {l : List Nat} {a : Nat} (h : l.length ≤ a) : scanE l a = a := by
  rw [scanE, if_neg (by omega)]
theorem step_le {l : List Nat} {a : Nat} (h : a < l.length) (hz : readE (l.drop a) = 0) : a + readN (l.drop a) ≤ l.length ∧ a < a + readN (l.drop a) := by
  have := readN_pos hz
  rw [List.length_drop] at this
  omega
theorem scanE_le (l : List Nat) : ∀ (n a : Nat), l.length - a ≤ n → a ≤ l.length → a ≤ scanE l a ∧ scanE l a ≤ l.length
  | 0, a, h, ha => by rw [scanE_end (by omega)]; omega
  | n + 1, a, h, ha => by
    by_cases hlt : a < l.length
    · by_cases hz : readE (l.drop a) = 0
      · have hs := step_le hlt hz
        have := scanE_le l n (a + readN (l.drop a)) (by omega) hs.1
        rw [scanE_step hlt hz]; omega
      · rw [scanE_bad hz]; omega
    · rw [scanE_end (by omega)]; omega
/-- Where frames end is behind the last of them. -/
theorem scan_last (l : List Nat) : ∀ (n a : Nat), l.length - a ≤ n → a ≤ l.length → scanE l a = ((scanL l a).getLast?.map fun x => x.1 + (x.2.2.length + 7)).getD a
  | 0, a, h, ha => by rw [scanE_end (by omega), scanL_end (by omega)]; rfl
  | n + 1, a, h, ha => by
    by_cases hlt : a < l.length
    · by_cases hz : readE (l.drop a) = 0
      · have hs := step_le hlt hz
        have hp := readN_pos hz
        have := scan_last l n (a + readN (l.drop a)) (by omega) hs.1
        rw [scanE_step hlt hz, scanL_step hlt hz, this]
        cases hq : scanL l (a + readN (l.drop a)) with
        | nil => simp; omega
        | cons x xs =>
          rw [List.getLast?_cons_cons]
          obtain ⟨y, hy⟩ : ∃ y, (x :: xs).getLast? = some y := ⟨_, List.getLast?_eq_some_getLast (by simp)⟩
          rw [hy]; rfl
      · rw [scanE_bad hz, scanL_bad hz]; rfl
    · rw [scanE_end (by omega), scanL_end (by omega)]; rfl
end Go.Proofs.YtocmfdahnekboaaDoor

/- Contracts of package frame: Weight, Write. -/
namespace Go.Proofs.YtocmfdahnekboaaDoor
open Go.RowKit SumM
set_option linter.unusedVariables false

set_option maxHeartbeats 400000 in
theorem weight_any (n : Int) (w : World) (h : n ≤ 1099511627776) :
    Calls Tryd.prog 29 #[.int .i64 n] w fun e w' => e = .returned (.int .i64 (max n 0 + 7)) ∧ w = w' := by
  have h1 : max n 0 ≤ 1099511627776 := by omega
  have h2 : 0 ≤ max n 0 := by omega
  obtain ⟨m, hm⟩ : ∃ m, max n 0 = m := ⟨_, rfl⟩
  rw [hm] at h1 h2
  go_enter Tryd.func29, Tryd.ntmps29
  go_wp2
  go_ret
  exact ⟨by rw [hm]; exact congrArg (fun z : Int => Ending.returned (.int .i64 z)) (by omega : 3 + m + 4 = m + 7), rfl⟩

theorem and_of {b : Bool} (h : b = true) : b = true := h
set_option maxRecDepth 100000 in
set_option maxHeartbeats 1000000 in
theorem write_any (k : Int) (a : Option Addr) (n c : Nat) (l : List Nat) (hl : Bytes l) (w : World) (hS : Sl encY w.heap.size w (.slice a n c) l) :
    Calls Tryd.prog 31 #[.agg #[.int .i64 k, .slice a n c]] w fun e w' => ∃ v, e = .returned (.tuple #[v, .int .i64 (writeE k l)]) ∧ Sl encY w'.heap.size w' v (writeL k l) ∧ Below w.heap.size w w' := by
  obtain ⟨i0, hi, hz0, hz1, hz2⟩ := info_parts info8
  obtain rfl := hS.len
  by_cases hk1 : k < 1
  · rw [show writeE k l = 1 from if_pos (.inl hk1), show writeL k l = [] from if_neg (by rw [show writeE k l = 1 from if_pos (.inl hk1)]; decide)]
    clear hl hS
    go_enter Tryd.func31, Tryd.ntmps31
    go_wp2
    go_ret2
    exact ⟨_, rfl, Sl.nil _ _ _, (Below.refl _ _).alloc (Nat.le_refl _) _⟩
  · by_cases hk2 : 255 < k
    · rw [show writeE k l = 1 from if_pos (.inr hk2), show writeL k l = [] from if_neg (by rw [show writeE k l = 1 from if_pos (.inr hk2)]; decide)]
      clear hl hS
      go_enter Tryd.func31, Tryd.ntmps31
      go_wp2
      go_ret2
      exact ⟨_, rfl, Sl.nil _ _ _, (Below.refl _ _).alloc (Nat.le_refl _) _⟩
    · have hkk : ¬ (k < 1 ∨ 255 < k) := by omega
      by_cases h4 : 4096 < l.length
      · have e2 : writeE k l = 2 := by unfold writeE; rw [if_neg hkk, if_pos h4]
        rw [e2, show writeL k l = [] from if_neg (by rw [e2]; decide)]
        have hl1 := hl.1
        clear hl hS e2 hkk
        obtain ⟨n, hn⟩ : ∃ n, l.length = n := ⟨_, rfl⟩
        rw [hn] at h4 hl1 ⊢
        clear hn
        go_enter Tryd.func31, Tryd.ntmps31
        go_wp2
        go_ret2
        exact ⟨_, rfl, Sl.nil _ _ _, (Below.refl _ _).alloc (Nat.le_refl _) _⟩
      · have e2 : writeE k l = 0 := by unfold writeE; rw [if_neg hkk, if_neg h4]
        rw [e2, show writeL k l = frameL k.toNat l from if_pos e2]
        clear e2 hkk
        obtain ⟨t, rfl⟩ : ∃ t : Nat, k = (t : Int) := ⟨k.toNat, by omega⟩
        rw [Int.toNat_natCast]
        have HB : Hid (Bytes (headF t l ++ l)) := Lib.hid ⟨by have := hl.1; simp [headF]; omega, by
          intro x hx
          rcases List.mem_append.1 hx with h | h
          · simp [headF] at h; omega
          · exact hl.2 x h⟩
        have HS := Lib.hid hS
        have HL := Lib.hid hl
        have HQ : Hid (∀ (w3 : World), (w3.alloc (.cells #[Value.int .u8 ((l.length : Int) % 256), Value.int .u8 ((l.length : Int) / 256), Value.int .u8 (t : Int)] 5)).ownsRow w3.heap.size 5 1 (.slice (some ⟨w3.heap.size, 0, none⟩) 3 3) 3 ((headF t l).map encY)) :=
          Lib.hid fun w3 => ⟨rfl, .inr ⟨w3.heap.size, 3, _, rfl, Nat.le_refl _, World.alloc_heap_new w3 _, Nat.le_refl _, by decide, rfl, by simp [headF, encY]⟩⟩
        have HF : Hid (frameL t l = sealL (headF t l ++ l)) := Lib.hid rfl
        obtain ⟨hd, hhd⟩ : ∃ hd, headF t l = hd := ⟨_, rfl⟩
        have HHL : Hid (hd.length = 3) := Lib.hid (by rw [← hhd]; rfl)
        rw [hhd] at HQ HB HF
        obtain ⟨n, hn⟩ : ∃ n, l.length = n := ⟨_, rfl⟩
        have HN := Lib.hid hn
        rw [hn] at h4 HS HQ ⊢
        clear hn hl hS hhd
        have c1 : (n : Int) / 256 ≤ 16 := by omega
        have c2 : 0 ≤ (n : Int) / 256 := by omega
        go_enter Tryd.func31, Tryd.ntmps31
        have HW : Below w.heap.size w (w.alloc (.cells #[.int .i64 t, .slice a n c] 66)) := (Below.refl _ _).alloc (Nat.le_refl _) _
        have HQ1 := HQ.out (w.alloc (.cells #[.int .i64 t, .slice a n c] 66))
        rw [World.size_alloc] at HQ1
        have HW2 := HW.alloc HW.size (.cells #[Value.int .u8 ((n : Int) % 256), Value.int .u8 ((n : Int) / 256), Value.int .u8 (t : Int)] 5)
        have HS2 := Lib.hid (HS.out.below HW2)
        have HQ2 := Lib.hid HQ1
        have HX := Lib.hid HW2
        clear HQ1 HW HW2
        go_wp2_with (at_builtin; refine wpList_append_bytes _ rfl (.tmp 28) (.tmp 30) rfl (w.heap.size + 1) _ 3 (hd.map encY) rfl HQ2.out w.heap.size _ l rfl HS2.out (by rw [HN.out]; omega) (by simp) ?_)
        intro v2 w2 hown2 hg2
        have hb2 : Below w.heap.size w w2 := HX.out.grown hg2 HX.out.size (fun j hj => by simp [Value.ownBlock] at hj; omega)
        have hml : 3 + l.length = (hd ++ l).length := by rw [List.length_append, HHL.out]
        rw [← List.map_append, hml] at hown2
        obtain ⟨x, hx⟩ : ∃ x, hd ++ l = x := ⟨_, rfl⟩
        rw [hx] at hown2 HB HF
        have hS2 := Sl.of_owns hown2
        obtain ⟨a2, c2', rfl⟩ := hS2.form
        have HSE := Lib.hid (seal_any _ _ _ x HB.out w2 hS2)
        obtain ⟨m, hm⟩ : ∃ m, x.length = m := ⟨_, rfl⟩
        rw [hm] at HSE
        rw [hm]
        clear hown2 hg2 hS2 hml hx hm
        go_wp2_with (go_at_call 48; refine HSE.out.mono ?_; rintro e w3 ⟨v3, rfl, hown3, hb3⟩)
        have hb03 := hb2.trans (hb3.mono hb2.size)
        have hS3 := Sl.of_owns hown3
        rw [← HF.out] at hS3
        have H3 := Lib.hid hS3
        clear hown3 hb3 hS3
        go_wp2
        go_ret2
        exact ⟨_, rfl, H3.out, hb03⟩
end Go.Proofs.YtocmfdahnekboaaDoor

/- The contract of frame.Read. -/
namespace Go.Proofs.YtocmfdahnekboaaDoor
open Go.RowKit SumM
set_option linter.unusedVariables false

def ReadTo (w : World) (l : List Nat) (e : Ending) (w' : World) : Prop :=
  ∃ v, e = .returned (.tuple #[.agg #[.int .i64 (readK l), v], .int .i64 (readN l), .int .i64 (readE l)]) ∧ Sl encY w'.heap.size w' v (readB l) ∧ Below w.heap.size w w'
theorem readTo_bad {w w' : World} {l : List Nat} {n : Nat} (h : readE l = n) (h0 : n ≠ 0) (hb : Below w.heap.size w w') : ReadTo w l (.returned (.tuple #[.agg #[.int .i64 0, .slice none 0 0], .int .i64 0, .int .i64 n])) w' := by
  refine ⟨.slice none 0 0, ?_, ?_, hb⟩
  · rw [h, show readK l = 0 from if_neg (by rw [h]; exact h0), show readN l = 0 from if_neg (by rw [h]; exact h0)]; rfl
  · rw [show readB l = [] from if_neg (by rw [h]; exact h0)]; exact Sl.nil _ _ _
theorem zframe (w : World) : (zeroValue 66).run Tryd.prog w = .ok (.agg #[.int .i64 0, .slice none 0 0]) w := by kernel_rfl
theorem i64_or_nat (x y : Nat) (hx : x < 256) (hy : y < 256) : bits .or .i64 (x : Int) ((y : Int) * 256) = ((x + 256 * y : Nat) : Int) := by
  have h1 : bits .or .i64 (x : Int) ((y * 256 : Nat) : Int) = ((x ||| y * 256 : Nat) : Int) := by
    have e1 : BitVec.ofInt 64 (x : Int) = BitVec.ofNat 64 x := by simp
    have e2 : BitVec.ofInt 64 ((y * 256 : Nat) : Int) = BitVec.ofNat 64 (y * 256) := BitVec.ofInt_natCast _ _
    show IntKind.i64.wrap ((BitVec.ofInt 64 (x : Int) ||| BitVec.ofInt 64 ((y * 256 : Nat) : Int)).toNat : Nat) = _
    have hlt : x ||| y * 256 < 2 ^ 16 := Nat.or_lt_two_pow (by omega) (by omega)
    rw [e1, e2, BitVec.toNat_or, BitVec.toNat_ofNat, BitVec.toNat_ofNat, Nat.mod_eq_of_lt (by omega), Nat.mod_eq_of_lt (by omega), IntKind.wrap_i64]
    omega
  have h2 : x ||| y * 256 = x + 256 * y := by
    have := Nat.two_pow_add_eq_or_of_lt (i := 8) (b := x) (by omega) y
    rw [Nat.or_comm, Nat.mul_comm y 256]
    rw [show (256 : Nat) = 2 ^ 8 from rfl, ← this]; omega
  rw [show ((y : Int) * 256) = ((y * 256 : Nat) : Int) from (Int.natCast_mul _ _).symm, h1, h2]
theorem frame_res (tmps : Array Value) (w : World) (b : Nat) (k v n e : Value) (fr : Nat × Nat) (hp : tmps.getD 2 undef = .pointer (some ⟨b, 0, none⟩)) (h3 : tmps.getD 3 undef = n) (h4 : tmps.getD 4 undef = e)
    (hg : w.heap[b]? = some (.cells #[k, v] 66 fr)) : (results Tryd.f62 tmps).run Tryd.prog w = .ok (.tuple #[.agg #[k, v], n, e]) w := by
  have hp' : tmps[2]?.getD undef = .pointer (some ⟨b, 0, none⟩) := by simpa using hp
  have h3' : tmps[3]?.getD undef = n := by simpa using h3
  have h4' : tmps[4]?.getD undef = e := by simpa using h4
  have k1 := run_loadVar_row (P := Tryd.prog) w b 66 66 #[k, v] fr _ hg Tryd.underlying66 rfl (by kernel_rfl)
  simp [results, hp', h3', h4', asAddr, k1]
theorem heap_set2 {W : World} {b : Nat} {t : TypeId} {x y k v : Value} (h : W.heap[b]? = some (.cells #[x, y] t (0, 0))) : ((W.setCell ⟨b, 0, none⟩ k).setCell ⟨b, 1, none⟩ v).heap[b]? = some (.cells #[k, v] t (0, 0)) :=
  heap_setCell_same _ b 1 _ t v (heap_setCell_same W b 0 _ t k h)
theorem weight_nat (n s : Nat) (h : n ≤ 1048576) (hs : n + 7 = s) (w : World) : Calls Tryd.prog 29 #[.int .i64 n] w fun e w' => e = .returned (.int .i64 (s : Nat)) ∧ w = w' := by
  refine (weight_any n w (by omega)).mono ?_
  rintro e w' ⟨rfl, rfl⟩
  exact ⟨congrArg (fun z : Int => Ending.returned (.int .i64 z)) (by omega), rfl⟩
theorem below_set2 {B : Nat} {w W : World} {b : Nat} {u v : Value} (h : Below B w W) (hb : B ≤ b) : Below B w ((W.setCell ⟨b, 0, none⟩ u).setCell ⟨b, 1, none⟩ v) := (h.setCell (p := ⟨b, 0, none⟩) hb _).setCell (p := ⟨b, 1, none⟩) hb _
theorem cell2 {W : World} {b : Nat} {t : TypeId} {x y : Value} (h : W.heap[b]? = some (.cells #[x, y] t (0, 0))) : W.cell? ⟨b, 0, none⟩ = some x ∧ W.cell? ⟨b, 1, none⟩ = some y ∧ W.frozen? ⟨b, 0, none⟩ = false ∧ W.frozen? ⟨b, 1, none⟩ = false := by
  refine ⟨?_, ?_, ?_, ?_⟩ <;> simp [World.cell?, World.frozen?, h]
abbrev frameNew (w : World) : World := w.alloc (.cells #[.int .i64 0, .slice none 0 0] 66)
theorem frameNew_at (w : World) : (frameNew w).heap[w.heap.size]? = some (.cells #[.int .i64 0, .slice none 0 0] 66 (0, 0)) := World.alloc_heap_new w _
theorem frameNew_below (w : World) : Below w.heap.size w (frameNew w) := (Below.refl _ _).alloc (Nat.le_refl _) _

set_option maxRecDepth 100000 in
set_option maxHeartbeats 1000000 in
theorem read_short (a : Option Addr) (n c : Nat) (l : List Nat) (w : World) (hS : Sl encY w.heap.size w (.slice a n c) l) (h : l.length < 2) :
    Calls Tryd.prog 62 #[.slice a n c] w (ReadTo w l) := by
  have hz := zframe
  obtain rfl := hS.len
  have HE : Hid (readE l = 21) := Lib.hid (if_pos h)
  obtain ⟨n, hn⟩ : ∃ n, l.length = n := ⟨_, rfl⟩
  rw [hn] at h ⊢
  clear hn hS
  go_enter Tryd.func62, Tryd.ntmps62
  go_wp2
  refine bodyPost_ret (frame_res _ _ w.heap.size _ _ _ _ (0, 0) rfl rfl rfl (World.alloc_heap_new w _)) rfl (readTo_bad HE.out (by decide) ?_)
  exact ((Below.refl _ _).alloc (Nat.le_refl _) _)
set_option maxRecDepth 100000 in
set_option maxHeartbeats 2000000 in
theorem read_long (b off c : Nat) (l : List Nat) (hl : Bytes l) (w : World) (hS : Sl encY w.heap.size w (.slice (some ⟨b, off, none⟩) l.length c) l) (h : 2 ≤ l.length) (h2 : 4096 < lenOf l) :
    Calls Tryd.prog 62 #[.slice (some ⟨b, off, none⟩) l.length c] w (ReadTo w l) := by
  have hz := zframe
  have HE : Hid (readE l = 2) := Lib.hid (by unfold readE; rw [if_neg (by omega), if_pos h2])
  have LN : 2 ≤ l.length := h
  obtain ⟨x, hx⟩ : ∃ x, l[0]? = some x := ⟨_, List.getElem?_eq_getElem (by omega)⟩
  obtain ⟨y, hy⟩ : ∃ y, l[1]? = some y := ⟨_, List.getElem?_eq_getElem (by omega)⟩
  have hxb := hl.2 x (List.mem_of_getElem? hx)
  have hyb := hl.2 y (List.mem_of_getElem? hy)
  obtain ⟨b0, o0, e0, hb0, hc0⟩ := hS.at_ hx
  obtain ⟨b1, o1, e1, hb1, hc1⟩ := hS.at_ hy
  cases e0; cases e1
  have hor := i64_or_nat x y hxb hyb
  have k0 : w.cell? ⟨b, off, none⟩ = some (.int .u8 (x : Int)) := hc0
  have k1 : w.cell? ⟨b, off + 1, none⟩ = some (.int .u8 (y : Int)) := hc1
  have hle : lenOf l = x + 256 * y := by unfold lenOf; simp [List.getD, hx, hy]
  obtain ⟨q, hq⟩ : ∃ q, lenOf l = q := ⟨_, rfl⟩
  rw [← hle, hq] at hor
  rw [hq] at h2
  clear LN
  have LN : l.length = l.length := rfl
  have hl1 := hl.1
  have hcap := hS.capb
  obtain ⟨n, hn⟩ : ∃ n, l.length = n := ⟨_, rfl⟩
  rw [hn] at h hl1 hcap LN ⊢
  have g0 : 0 < n := by omega
  have g1 : (1 : Int) < n := by omega
  have g2 : (0 : Int) < n := by omega
  have g3 : 1 < n := by omega
  clear hn hS hx hy hl hle hq hc0 hc1
  go_enter Tryd.func62, Tryd.ntmps62
  go_wp2
  go_quiet (fail)
  have hR : (((frameNew w).drewN nq)).heap[w.heap.size]? = some (.cells #[.int .i64 0, .slice none 0 0] 66 (0, 0)) := frameNew_at w
  have hBW : Below w.heap.size w ((frameNew w).drewN nq) := Below.drewN_r (frameNew_below w) nq
  clear LN
  go_wp2
  refine bodyPost_ret (frame_res _ _ w.heap.size _ _ _ _ (0, 0) rfl rfl rfl (heap_set2 hR)) rfl (readTo_bad HE.out (by decide) (below_set2 hBW (Nat.le_refl _)))

set_option maxRecDepth 100000 in
set_option maxHeartbeats 2000000 in
theorem read_cutoff (b off c : Nat) (l : List Nat) (hl : Bytes l) (w : World) (hS : Sl encY w.heap.size w (.slice (some ⟨b, off, none⟩) l.length c) l) (h : 2 ≤ l.length) (h2 : ¬ 4096 < lenOf l) (h3 : l.length < lenOf l + 7) :
    Calls Tryd.prog 62 #[.slice (some ⟨b, off, none⟩) l.length c] w (ReadTo w l) := by
  have hz := zframe
  have HE : Hid (readE l = 21) := Lib.hid (by unfold readE; rw [if_neg (by omega), if_neg h2, if_pos h3])
  obtain ⟨x, hx⟩ : ∃ x, l[0]? = some x := ⟨_, List.getElem?_eq_getElem (by omega)⟩
  obtain ⟨y, hy⟩ : ∃ y, l[1]? = some y := ⟨_, List.getElem?_eq_getElem (by omega)⟩
  have hxb := hl.2 x (List.mem_of_getElem? hx)
  have hyb := hl.2 y (List.mem_of_getElem? hy)
  obtain ⟨b0, o0, e0, hb0, hc0⟩ := hS.at_ hx
  obtain ⟨b1, o1, e1, hb1, hc1⟩ := hS.at_ hy
  cases e0; cases e1
  have hor := i64_or_nat x y hxb hyb
  have k0 : w.cell? ⟨b, off, none⟩ = some (.int .u8 (x : Int)) := hc0
  have k1 : w.cell? ⟨b, off + 1, none⟩ = some (.int .u8 (y : Int)) := hc1
  have hle : lenOf l = x + 256 * y := by unfold lenOf; simp [List.getD, hx, hy]
  obtain ⟨q, hq⟩ : ∃ q, lenOf l = q := ⟨_, rfl⟩
  rw [← hle, hq] at hor
  rw [hq] at h2
  obtain ⟨s, hs⟩ : ∃ s, q + 7 = s := ⟨_, rfl⟩
  rw [hq, hs] at h3
  have LN := h3
  have HS := Lib.hid hs
  clear hs
  have hl1 := hl.1
  have hcap := hS.capb
  obtain ⟨n, hn⟩ : ∃ n, l.length = n := ⟨_, rfl⟩
  rw [hn] at h hl1 hcap LN ⊢
  have g0 : 0 < n := by omega
  have g1 : (1 : Int) < n := by omega
  have g2 : (0 : Int) < n := by omega
  have g3 : 1 < n := by omega
  clear hn hS hx hy hl hle hq hc0 hc1
  go_enter Tryd.func62, Tryd.ntmps62
  go_wp2
  go_quiet (fail)
  have hR : (((frameNew w).drewN nq)).heap[w.heap.size]? = some (.cells #[.int .i64 0, .slice none 0 0] 66 (0, 0)) := frameNew_at w
  have hBW : Below w.heap.size w ((frameNew w).drewN nq) := Below.drewN_r (frameNew_below w) nq
  go_wp2_with (go_at_call 29; refine (weight_nat q s (by omega) HS.out _).mono ?_; rintro e w' ⟨rfl, rfl⟩)
  refine bodyPost_ret (frame_res _ _ w.heap.size _ _ _ _ (0, 0) rfl rfl rfl (heap_set2 hR)) rfl (readTo_bad HE.out (by decide) (below_set2 hBW (Nat.le_refl _)))

set_option maxRecDepth 100000 in
set_option maxHeartbeats 2000000 in
theorem read_bad (b off c : Nat) (l : List Nat) (hl : Bytes l) (w : World) (hS : Sl encY w.heap.size w (.slice (some ⟨b, off, none⟩) l.length c) l) (h : 2 ≤ l.length) (h2 : ¬ 4096 < lenOf l) (h3 : ¬ l.length < lenOf l + 7) (h4 : openL (l.take (lenOf l + 7)) = none) :
    Calls Tryd.prog 62 #[.slice (some ⟨b, off, none⟩) l.length c] w (ReadTo w l) := by
  have hz := zframe
  have HE : Hid (readE l = 22) := Lib.hid (by unfold readE; rw [if_neg (by omega), if_neg h2, if_neg h3, if_pos h4])
  obtain ⟨x, hx⟩ : ∃ x, l[0]? = some x := ⟨_, List.getElem?_eq_getElem (by omega)⟩
  obtain ⟨y, hy⟩ : ∃ y, l[1]? = some y := ⟨_, List.getElem?_eq_getElem (by omega)⟩
  have hxb := hl.2 x (List.mem_of_getElem? hx)
  have hyb := hl.2 y (List.mem_of_getElem? hy)
  obtain ⟨b0, o0, e0, hb0, hc0⟩ := hS.at_ hx
  obtain ⟨b1, o1, e1, hb1, hc1⟩ := hS.at_ hy
  cases e0; cases e1
  have hor := i64_or_nat x y hxb hyb
  have k0 : w.cell? ⟨b, off, none⟩ = some (.int .u8 (x : Int)) := hc0
  have k1 : w.cell? ⟨b, off + 1, none⟩ = some (.int .u8 (y : Int)) := hc1
  have hle : lenOf l = x + 256 * y := by unfold lenOf; simp [List.getD, hx, hy]
  obtain ⟨q, hq⟩ : ∃ q, lenOf l = q := ⟨_, rfl⟩
  rw [← hle, hq] at hor
  rw [hq] at h2
  obtain ⟨s, hs⟩ : ∃ s, q + 7 = s := ⟨_, rfl⟩
  rw [hq, hs] at h3
  have LN : s ≤ l.length := by omega
  have HSS := Lib.hid hs
  have hs7 : 7 ≤ s := by omega
  have htk := hS.cut (k := s) LN s (Nat.le_refl _)
  have htb : Bytes (l.take s) := ⟨by have := hl.1; simp; omega, fun z hz => hl.2 z (List.mem_of_mem_take hz)⟩
  have hop : openL (l.take s) = none := by rw [← hs, ← hq]; exact h4
  clear h4
  have HTK := Lib.hid (fun (W : World) (hb : Below w.heap.size w W) => open_any _ s s (l.take s) htb W ((htk.below hb).mono hb.size))
  rw [hop] at HTK
  clear htk htb hs hop

  have hl1 := hl.1
  have hcap := hS.capb
  obtain ⟨n, hn⟩ : ∃ n, l.length = n := ⟨_, rfl⟩
  rw [hn] at h hl1 hcap LN ⊢
  have g0 : 0 < n := by omega
  have g1 : (1 : Int) < n := by omega
  have g2 : (0 : Int) < n := by omega
  have g3 : 1 < n := by omega
  clear hn hS hx hy hl hle hq hc0 hc1
  go_enter Tryd.func62, Tryd.ntmps62
  go_wp2
  go_quiet (fail)
  have hR : (((frameNew w).drewN nq)).heap[w.heap.size]? = some (.cells #[.int .i64 0, .slice none 0 0] 66 (0, 0)) := frameNew_at w
  have hBW : Below w.heap.size w ((frameNew w).drewN nq) := Below.drewN_r (frameNew_below w) nq
  have HR := Lib.hid hR
  go_upto_region 10 with (first | (go_at_call 29; refine (weight_nat q s (by omega) HSS.out _).mono ?_; rintro e w' ⟨rfl, rfl⟩) | (go_at_call 72; refine (HTK.out _ hBW).mono ?_; rintro e w2 ⟨v2, rfl, hS2, hb2⟩; have H2 := Lib.hid hS2; clear hS2))
  have hR2 := (hb2.block w.heap.size (Array.getElem?_eq_some_iff.1 HR.out).1).trans HR.out
  have hB2 := hBW.trans (hb2.mono hBW.size)
  have HR2 := Lib.hid hR2
  obtain ⟨f1, f2, f3, f4⟩ := cell2 hR2
  clear hR2 hR
  go_wp2
  refine bodyPost_ret (frame_res _ _ w.heap.size _ _ _ _ (0, 0) rfl rfl rfl (heap_set2 HR2.out)) rfl (readTo_bad HE.out (by decide) (below_set2 hB2 (Nat.le_refl _)))

set_option maxRecDepth 100000 in
set_option maxHeartbeats 2000000 in
theorem read_zero (b off c : Nat) (l : List Nat) (hl : Bytes l) (w : World) (hS : Sl encY w.heap.size w (.slice (some ⟨b, off, none⟩) l.length c) l) (h : 2 ≤ l.length) (h2 : ¬ 4096 < lenOf l) (h3 : ¬ l.length < lenOf l + 7) (h4 : openL (l.take (lenOf l + 7)) = some (l.take (lenOf l + 3))) (h5 : l.getD 2 0 = 0) :
    Calls Tryd.prog 62 #[.slice (some ⟨b, off, none⟩) l.length c] w (ReadTo w l) := by
  have hz := zframe
  have HE : Hid (readE l = 20) := Lib.hid (by unfold readE; rw [if_neg (by omega), if_neg h2, if_neg h3, if_neg (by rw [h4]; simp), if_pos h5])
  obtain ⟨x, hx⟩ : ∃ x, l[0]? = some x := ⟨_, List.getElem?_eq_getElem (by omega)⟩
  obtain ⟨y, hy⟩ : ∃ y, l[1]? = some y := ⟨_, List.getElem?_eq_getElem (by omega)⟩
  have hxb := hl.2 x (List.mem_of_getElem? hx)
  have hyb := hl.2 y (List.mem_of_getElem? hy)
  obtain ⟨b0, o0, e0, hb0, hc0⟩ := hS.at_ hx
  obtain ⟨b1, o1, e1, hb1, hc1⟩ := hS.at_ hy
  cases e0; cases e1
  have hor := i64_or_nat x y hxb hyb
  have k0 : w.cell? ⟨b, off, none⟩ = some (.int .u8 (x : Int)) := hc0
  have k1 : w.cell? ⟨b, off + 1, none⟩ = some (.int .u8 (y : Int)) := hc1
  have hle : lenOf l = x + 256 * y := by unfold lenOf; simp [List.getD, hx, hy]
  obtain ⟨q, hq⟩ : ∃ q, lenOf l = q := ⟨_, rfl⟩
  rw [← hle, hq] at hor
  rw [hq] at h2
  obtain ⟨s, hs⟩ : ∃ s, q + 7 = s := ⟨_, rfl⟩
  rw [hq, hs] at h3
  have LN : s ≤ l.length := by omega
  have HSS := Lib.hid hs
  have hs7 : 7 ≤ s := by omega
  have htk := hS.cut (k := s) LN s (Nat.le_refl _)
  have htb : Bytes (l.take s) := ⟨by have := hl.1; simp; omega, fun z hz => hl.2 z (List.mem_of_mem_take hz)⟩
  have hop : openL (l.take s) = some (l.take (lenOf l + 3)) := by rw [← hs, ← hq]; exact h4
  clear h4
  rw [hq] at hop
  obtain ⟨z, hz2⟩ : ∃ z, l[2]? = some z := ⟨_, List.getElem?_eq_getElem (by omega)⟩
  have hzb := hl.2 z (List.mem_of_getElem? hz2)
  have h5' : l.getD 2 0 = z := by simp [List.getD, hz2]
  rw [h5'] at h5
  clear h5'
  have hz3 : (l.take (q + 3))[2]? = some z := by rw [List.getElem?_take, if_pos (by omega)]; exact hz2
  have hlt3 : (l.take (q + 3)).length = q + 3 := by rw [List.length_take]; omega
  have HZ := Lib.hid hz3
  have HL3 := Lib.hid hlt3
  clear hz2 hz3 hlt3
  have hz0 : ((z : Int) == 0) = true := by rw [h5]; rfl
  clear h5
  have HTK := Lib.hid (fun (W : World) (hb : Below w.heap.size w W) => open_any _ s s (l.take s) htb W ((htk.below hb).mono hb.size))
  rw [hop] at HTK
  clear htk htb hs hop

  have hl1 := hl.1
  have hcap := hS.capb
  obtain ⟨n, hn⟩ : ∃ n, l.length = n := ⟨_, rfl⟩
  rw [hn] at h hl1 hcap LN ⊢
  have g0 : 0 < n := by omega
  have g1 : (1 : Int) < n := by omega
  have g2 : (0 : Int) < n := by omega
  have g3 : 1 < n := by omega
  clear hn hS hx hy hl hle hq hc0 hc1
  go_enter Tryd.func62, Tryd.ntmps62
  go_wp2
  go_quiet (fail)
  have hR : (((frameNew w).drewN nq)).heap[w.heap.size]? = some (.cells #[.int .i64 0, .slice none 0 0] 66 (0, 0)) := frameNew_at w
  have hBW : Below w.heap.size w ((frameNew w).drewN nq) := Below.drewN_r (frameNew_below w) nq
  have HR := Lib.hid hR
  go_upto_region 12 with (first | (go_at_call 29; refine (weight_nat q s (by omega) HSS.out _).mono ?_; rintro e w' ⟨rfl, rfl⟩) | (go_at_call 72; refine (HTK.out _ hBW).mono ?_; rintro e w2 ⟨v2, rfl, hS2, hb2⟩; have H2 := Lib.hid hS2; clear hS2))
  have hR2 := (hb2.block w.heap.size (Array.getElem?_eq_some_iff.1 HR.out).1).trans HR.out
  have hB2 := hBW.trans (hb2.mono hBW.size)
  have hS2 : Sl encY w2.heap.size w2 v2 (l.take (q + 3)) := H2.out
  obtain ⟨b2, o2, c2, rfl, hc2, hcc2⟩ : ∃ b2 o2 c2, v2 = .slice (some ⟨b2, o2, none⟩) (q + 3) c2 ∧ w2.cell? ⟨b2, o2 + 2, none⟩ = some (.int .u8 (z : Int)) ∧ q + 3 ≤ c2 := by
    obtain ⟨a, c, rfl⟩ := hS2.form
    rw [HL3.out] at hS2 ⊢
    obtain ⟨b2, o2, rfl, _, hcz⟩ := hS2.at_ HZ.out
    exact ⟨b2, o2, c, rfl, hcz, hS2.capb⟩
  have HS2 := Lib.hid hS2
  have HR2 := Lib.hid hR2
  obtain ⟨f1, f2, f3, f4⟩ := cell2 hR2
  obtain ⟨t, ht⟩ : ∃ t, q + 3 = t := ⟨_, rfl⟩
  rw [ht] at hcc2 HS2 ⊢
  have u1 : 2 < t := by omega
  have u2 : (2 : Int) < t := by omega
  clear hS2 hR2 H2 HTK hR
  go_wp2
  refine bodyPost_ret (frame_res _ _ w.heap.size _ _ _ _ (0, 0) rfl rfl rfl (heap_set2 HR2.out)) rfl (readTo_bad HE.out (by decide) (below_set2 hB2 (Nat.le_refl _)))

set_option maxRecDepth 100000 in
set_option maxHeartbeats 2000000 in
theorem read_good (b off c : Nat) (l : List Nat) (hl : Bytes l) (w : World) (hS : Sl encY w.heap.size w (.slice (some ⟨b, off, none⟩) l.length c) l) (h : 2 ≤ l.length) (h2 : ¬ 4096 < lenOf l) (h3 : ¬ l.length < lenOf l + 7) (h4 : openL (l.take (lenOf l + 7)) = some (l.take (lenOf l + 3))) (h5 : l.getD 2 0 ≠ 0) :
    Calls Tryd.prog 62 #[.slice (some ⟨b, off, none⟩) l.length c] w (ReadTo w l) := by
  have hz := zframe
  have HE : Hid (readE l = 0) := Lib.hid (by unfold readE; rw [if_neg (by omega), if_neg h2, if_neg h3, if_neg (by rw [h4]; simp), if_neg h5])
  have HEN : Hid (readN l = lenOf l + 7) := Lib.hid (by unfold readN; rw [if_pos HE.out])
  have HEK : Hid (readK l = l.getD 2 0) := Lib.hid (by unfold readK; rw [if_pos HE.out])
  have HEB : Hid (readB l = (l.take (lenOf l + 3)).drop 3) := Lib.hid (by unfold readB; rw [if_pos HE.out])
  obtain ⟨x, hx⟩ : ∃ x, l[0]? = some x := ⟨_, List.getElem?_eq_getElem (by omega)⟩
  obtain ⟨y, hy⟩ : ∃ y, l[1]? = some y := ⟨_, List.getElem?_eq_getElem (by omega)⟩
  have hxb := hl.2 x (List.mem_of_getElem? hx)
  have hyb := hl.2 y (List.mem_of_getElem? hy)
  obtain ⟨b0, o0, e0, hb0, hc0⟩ := hS.at_ hx
  obtain ⟨b1, o1, e1, hb1, hc1⟩ := hS.at_ hy
  cases e0; cases e1
  have hor := i64_or_nat x y hxb hyb
  have k0 : w.cell? ⟨b, off, none⟩ = some (.int .u8 (x : Int)) := hc0
  have k1 : w.cell? ⟨b, off + 1, none⟩ = some (.int .u8 (y : Int)) := hc1
  have hle : lenOf l = x + 256 * y := by unfold lenOf; simp [List.getD, hx, hy]
  obtain ⟨q, hq⟩ : ∃ q, lenOf l = q := ⟨_, rfl⟩
  rw [← hle, hq] at hor
  rw [hq] at h2
  obtain ⟨s, hs⟩ : ∃ s, q + 7 = s := ⟨_, rfl⟩
  rw [hq, hs] at h3
  have LN : s ≤ l.length := by omega
  have HSS := Lib.hid hs
  have hs7 : 7 ≤ s := by omega
  have htk := hS.cut (k := s) LN s (Nat.le_refl _)
  have htb : Bytes (l.take s) := ⟨by have := hl.1; simp; omega, fun z hz => hl.2 z (List.mem_of_mem_take hz)⟩
  have hop : openL (l.take s) = some (l.take (lenOf l + 3)) := by rw [← hs, ← hq]; exact h4
  clear h4
  rw [hq] at hop HEB HEN
  rw [hs] at HEN
  obtain ⟨z, hz2⟩ : ∃ z, l[2]? = some z := ⟨_, List.getElem?_eq_getElem (by omega)⟩
  have hzb := hl.2 z (List.mem_of_getElem? hz2)
  have h5' : l.getD 2 0 = z := by simp [List.getD, hz2]
  rw [h5'] at h5 HEK
  clear h5'
  have hz3 : (l.take (q + 3))[2]? = some z := by rw [List.getElem?_take, if_pos (by omega)]; exact hz2
  have hlt3 : (l.take (q + 3)).length = q + 3 := by rw [List.length_take]; omega
  have HZ := Lib.hid hz3
  have HL3 := Lib.hid hlt3
  clear hz2 hz3 hlt3
  have hz0 : ((z : Int) == 0) = false := beq_eq_false_iff_ne.2 (by omega)
  have HTK := Lib.hid (fun (W : World) (hb : Below w.heap.size w W) => open_any _ s s (l.take s) htb W ((htk.below hb).mono hb.size))
  rw [hop] at HTK
  clear htk htb hs hop

  have hl1 := hl.1
  have hcap := hS.capb
  obtain ⟨n, hn⟩ : ∃ n, l.length = n := ⟨_, rfl⟩
  rw [hn] at h hl1 hcap LN ⊢
  have g0 : 0 < n := by omega
  have g1 : (1 : Int) < n := by omega
  have g2 : (0 : Int) < n := by omega
  have g3 : 1 < n := by omega
  clear hn hS hx hy hl hle hq hc0 hc1
  go_enter Tryd.func62, Tryd.ntmps62
  go_wp2
  go_quiet (fail)
  have hR : (((frameNew w).drewN nq)).heap[w.heap.size]? = some (.cells #[.int .i64 0, .slice none 0 0] 66 (0, 0)) := frameNew_at w
  have hBW : Below w.heap.size w ((frameNew w).drewN nq) := Below.drewN_r (frameNew_below w) nq
  have HR := Lib.hid hR
  go_upto_region 12 with (first | (go_at_call 29; refine (weight_nat q s (by omega) HSS.out _).mono ?_; rintro e w' ⟨rfl, rfl⟩) | (go_at_call 72; refine (HTK.out _ hBW).mono ?_; rintro e w2 ⟨v2, rfl, hS2, hb2⟩; have H2 := Lib.hid hS2; clear hS2))
  have hR2 := (hb2.block w.heap.size (Array.getElem?_eq_some_iff.1 HR.out).1).trans HR.out
  have hB2 := hBW.trans (hb2.mono hBW.size)
  have hS2 : Sl encY w2.heap.size w2 v2 (l.take (q + 3)) := H2.out
  obtain ⟨b2, o2, c2, rfl, hc2, hcc2⟩ : ∃ b2 o2 c2, v2 = .slice (some ⟨b2, o2, none⟩) (q + 3) c2 ∧ w2.cell? ⟨b2, o2 + 2, none⟩ = some (.int .u8 (z : Int)) ∧ q + 3 ≤ c2 := by
    obtain ⟨a, c, rfl⟩ := hS2.form
    rw [HL3.out] at hS2 ⊢
    obtain ⟨b2, o2, rfl, _, hcz⟩ := hS2.at_ HZ.out
    exact ⟨b2, o2, c, rfl, hcz, hS2.capb⟩
  have HS2 := Lib.hid hS2
  have HR2 := Lib.hid hR2
  obtain ⟨f1, f2, f3, f4⟩ := cell2 hR2
  obtain ⟨t, ht⟩ : ∃ t, q + 3 = t := ⟨_, rfl⟩
  rw [ht] at hcc2 HS2 ⊢
  have u1 : 2 < t := by omega
  have u2 : (2 : Int) < t := by omega
  clear hS2 hR2 H2 HTK hR
  have hdr : ∀ m, (l.take t).drop 3 = m → m = readB l := by rintro m rfl; rw [HEB.out, ht]
  have HTL := Lib.hid ht
  have hti : (3 : Int) ≤ t := by omega
  have htn : 3 ≤ t := by omega
  have hne : b2 ≠ w.heap.size := by
    rintro rfl
    have h9 := HR2.out
    simp [World.cell?, h9] at hc2
  by_cases hc3 : 3 = c2
  · have htc : t = 3 := by omega
    subst htc
    subst hc3
    go_wp2
    refine bodyPost_ret (frame_res _ _ w.heap.size _ _ _ _ (0, 0) rfl rfl rfl (heap_set2 HR2.out)) rfl ⟨_, by rw [HE.out, HEN.out, HEK.out]; rfl, ?_, below_set2 hB2 (Nat.le_refl _)⟩
    rw [← hdr _ rfl]
    exact .inl ⟨by simp, some ⟨b2, o2, none⟩, 0, rfl, fun h => by cases h⟩
  · have hc3' : 3 < c2 := by omega
    go_wp2
    refine bodyPost_ret (frame_res _ _ w.heap.size _ _ _ _ (0, 0) rfl rfl rfl (heap_set2 HR2.out)) rfl ⟨_, by rw [HE.out, HEN.out, HEK.out]; rfl, ?_, below_set2 hB2 (Nat.le_refl _)⟩
    rw [← hdr _ rfl]
    have h9 := HS2.out.from_ htn
    have h8 := (h9.set hne (j := 0) (.int .i64 (z : Int))).set hne (j := 1) (.slice (some ⟨b2, o2 + 3, none⟩) (t - 3) (c2 - 3))
    simpa using h8

theorem read_any (a : Option Addr) (n c : Nat) (l : List Nat) (hl : Bytes l) (w : World) (hS : Sl encY w.heap.size w (.slice a n c) l) :
    Calls Tryd.prog 62 #[.slice a n c] w (ReadTo w l) := by
  by_cases h : l.length < 2
  · exact read_short a n c l w hS h
  · obtain rfl := hS.len
    obtain ⟨b, off, rfl⟩ : ∃ b off, a = some ⟨b, off, none⟩ := by
      rcases hS with ⟨rfl, _⟩ | ⟨b, off, cap, e, _⟩
      · simp at h
      · cases e; exact ⟨b, off, rfl⟩
    by_cases h2 : 4096 < lenOf l
    · exact read_long b off c l hl w hS (by omega) h2
    · by_cases h3 : l.length < lenOf l + 7
      · exact read_cutoff b off c l hl w hS (by omega) h2 h3
      · cases h4 : openL (l.take (lenOf l + 7)) with
        | none => exact read_bad b off c l hl w hS (by omega) h2 h3 h4
        | some s =>
          have e := (openL_some h4).2.1
          have e2 : (l.take (lenOf l + 7)).take ((l.take (lenOf l + 7)).length - 4) = l.take (lenOf l + 3) := by
            rw [List.length_take, List.take_take]; congr 1; omega
          rw [e2] at e
          rw [e] at h4
          by_cases h5 : l.getD 2 0 = 0
          · exact read_zero b off c l hl w hS (by omega) h2 h3 h4 h5
          · exact read_good b off c l hl w hS (by omega) h2 h3 h4 h5
end Go.Proofs.YtocmfdahnekboaaDoor
