/- slices.IndexFunc of bytes with whole's own test. -/
import Derived.Test.YtocmfdahnekboaaDoorCodM
import Derived.Test.YtocmfdahnekboaaDoorBytes
import Derived.RegionTactic
namespace Go.Proofs.YtocmfdahnekboaaDoor
open Go.RowKit
set_option linter.unusedVariables false

theorem low_any (x : Nat) (hx : x < 256) (w : World) :
    Calls Tryd.prog 88 #[.int .u8 (x : Nat)] w fun e w' => e = .returned (.bool (decide (x < 128))) ∧ w' = w := by
  by_cases h : x < 128
  · rw [decide_eq_true h]
    go_enter Tryd.func88, Tryd.ntmps88
    go_wp2
    go_ret
    exact ⟨by simp; omega, rfl⟩
  · rw [decide_eq_false h]
    go_enter Tryd.func88, Tryd.ntmps88
    go_wp2
    go_ret
    exact ⟨by simp; omega, rfl⟩

/-- Where the first byte that is the last of a number stands, or none. -/
def lastI (l : List Nat) : Int := match l.findIdx? (fun x => decide (x < 128)) with
  | some i => (i : Nat)
  | none => -1

theorem lastI_found {l : List Nat} {k x : Nat} (hb : ∀ j y, j < k → l[j]? = some y → 128 ≤ y) (hx : l[k]? = some x) (h : x < 128) : lastI l = (k : Nat) := by
  have hk : k < l.length := (List.getElem?_eq_some_iff.1 hx).1
  have e : l.findIdx? (fun x => decide (x < 128)) = some k := by
    rw [List.findIdx?_eq_some_iff_getElem]
    refine ⟨hk, ?_, fun j hj => ?_⟩
    · have := (List.getElem?_eq_some_iff.1 hx).2
      rw [this]; exact decide_eq_true h
    · have h2 := hb j (l[j]'(by omega)) hj (List.getElem?_eq_getElem _)
      simp; omega
  unfold lastI; rw [e]
theorem lastI_none {l : List Nat} (hb : ∀ j y, j < l.length → l[j]? = some y → 128 ≤ y) : lastI l = -1 := by
  have e : l.findIdx? (fun x => decide (x < 128)) = none := by
    rw [List.findIdx?_eq_none_iff]
    intro x hx
    obtain ⟨j, hj⟩ := List.mem_iff_getElem?.1 hx
    have := hb j x (List.getElem?_eq_some_iff.1 hj).1 hj
    exact decide_eq_false (by omega)
  unfold lastI; rw [e]

set_option maxRecDepth 100000 in
set_option maxHeartbeats 1000000 in
theorem index_any (a : Option Addr) (n c : Nat) (l : List Nat) (hl : Bytes l) (w : World) (hS : Sl encY w.heap.size w (.slice a n c) l) :
    Calls Tryd.prog 87 #[.slice a n c, .func (.func 88) #[] #[]] w fun e w' => e = .returned (.int .i64 (lastI l)) ∧ w' = w := by
  obtain rfl := hS.len
  have HS := Lib.hid hS
  have hl1 := hl.1
  have HL := Lib.hid hl.2
  obtain ⟨n, hn⟩ : ∃ n, l.length = n := ⟨_, rfl⟩
  have HN := Lib.hid hn
  rw [hn] at HS hl1 ⊢
  clear hS hl hn
  go_enter Tryd.func87, Tryd.ntmps87
  go_wp2_with fail
  go_loop [8] (fun i => ∃ k : Nat, k ≤ n ∧ i = .int .i64 k ∧ ∀ j y, j < k → l[j]? = some y → 128 ≤ y) (fun i => n - (intOf i).toNat)
  case atStart => exact ⟨0, Nat.zero_le _, rfl, fun j y hj => absurd hj (Nat.not_lt_zero _)⟩
  case round =>
    obtain ⟨k, hk, rfl, hb⟩ := hrel
    have HBD := Lib.hid hb
    clear hb
    by_cases hlt : k < n
    · obtain ⟨x, hx⟩ : ∃ x, l[k]? = some x := ⟨l[k]'(by rw [HN.out]; exact hlt), List.getElem?_eq_getElem _⟩
      obtain ⟨b, off, rfl, hbl, hc⟩ := HS.out.at_ hx
      have hc' : w.cell? ⟨b, off + k, none⟩ = some (.int .u8 (x : Int)) := hc
      have hx2 := HL.out x (List.mem_of_getElem? hx)
      have HX := Lib.hid hx
      have HLOW := Lib.hid (low_any x hx2 w)
      clear hx hc
      by_cases hlow : x < 128
      · rw [decide_eq_true hlow] at HLOW
        go_wp2_with (go_at_call 88; refine HLOW.out.mono ?_; rintro e w1 ⟨rfl, rfl⟩)
        go_ret
        exact ⟨by rw [lastI_found HBD.out HX.out hlow]; rfl, rfl⟩
      · rw [decide_eq_false hlow] at HLOW
        go_wp2_with (go_at_call 88; refine HLOW.out.mono ?_; rintro e w1 ⟨rfl, rfl⟩)
        go_round
        case rel => exact ⟨k + 1, by omega, by go_num, fun j y hj hy => by
          rcases Nat.lt_succ_iff_lt_or_eq.1 hj with h | h
          · exact HBD.out j y h hy
          · subst h; rw [HX.out] at hy; cases hy; omega⟩
        case measure => simp [intOf]; omega
    · obtain rfl : k = n := by omega
      go_wp2
      go_ret
      exact ⟨by rw [lastI_none (by rw [HN.out]; exact HBD.out)]; rfl, rfl⟩
end Go.Proofs.YtocmfdahnekboaaDoor

/- codec.whole: where it goes wrong. -/
namespace Go.Proofs.YtocmfdahnekboaaDoor
open Go.RowKit
set_option linter.unusedVariables false

/-- Where the last byte of a number is looked for. -/
theorem lastI_cases (l : List Nat) : lastI l = -1 ∨ ∃ (k x : Nat), lastI l = (k : Nat) ∧ l[k]? = some x ∧ x < 128 ∧ ∀ j y, j < k → l[j]? = some y → 128 ≤ y := by
  cases e : l.findIdx? (fun x => decide (x < 128)) with
  | none => exact .inl (by unfold lastI; rw [e])
  | some k =>
    have e2 := e
    rw [List.findIdx?_eq_some_iff_getElem] at e2
    obtain ⟨hk, hp, hb⟩ := e2
    refine .inr ⟨k, l[k], by unfold lastI; rw [e], List.getElem?_eq_getElem hk, by simpa using hp, fun j y hj hy => ?_⟩
    have h1 := hb j hj
    rw [(List.getElem?_eq_some_iff.1 hy).2] at h1
    simpa using h1

set_option maxRecDepth 100000 in
set_option maxHeartbeats 1000000 in
theorem whole_short (a : Option Addr) (n c : Nat) (l : List Nat) (hl : Bytes l) (hk : lastI l = -1) (w : World) (hS : Sl encY w.heap.size w (.slice a n c) l) :
    Calls Tryd.prog 84 #[.slice a n c] w fun e w' => e = .returned (.tuple #[.int .u64 0, .int .i64 0, .int .i64 21]) ∧ w' = w := by
  have hI := index_any a n c l hl w hS
  rw [hk] at hI
  have HI := Lib.hid hI
  clear hI hS hl hk
  go_enter Tryd.func84, Tryd.ntmps84
  go_wp2_with (go_at_call 87; refine HI.out.mono ?_; rintro e w1 ⟨rfl, rfl⟩)
  go_ret3
  exact ⟨rfl, rfl⟩

set_option maxRecDepth 100000 in
set_option maxHeartbeats 1000000 in
theorem whole_long (a : Option Addr) (n c : Nat) (l : List Nat) (hl : Bytes l) (k : Nat) (hk : lastI l = (k : Nat)) (hk2 : 10 ≤ k) (hkl : k < l.length) (w : World) (hS : Sl encY w.heap.size w (.slice a n c) l) :
    Calls Tryd.prog 84 #[.slice a n c] w fun e w' => e = .returned (.tuple #[.int .u64 0, .int .i64 0, .int .i64 20]) ∧ w' = w := by
  have hI := index_any a n c l hl w hS
  have hl1 := hl.1
  rw [hk] at hI
  have HI := Lib.hid hI
  have hkb : k ≤ 1048576 := by omega
  clear hI hS hl hk hkl hl1
  go_enter Tryd.func84, Tryd.ntmps84
  go_wp2_with (go_at_call 87; refine HI.out.mono ?_; rintro e w1 ⟨rfl, rfl⟩)
  go_ret3
  exact ⟨rfl, rfl⟩

set_option maxRecDepth 100000 in
set_option maxHeartbeats 1000000 in
theorem whole_nine (a : Option Addr) (n c : Nat) (l : List Nat) (hl : Bytes l) (hk : lastI l = ((9 : Nat) : Int)) (x : Nat) (hx : l[9]? = some x) (h1 : 1 < x) (w : World) (hS : Sl encY w.heap.size w (.slice a n c) l) :
    Calls Tryd.prog 84 #[.slice a n c] w fun e w' => e = .returned (.tuple #[.int .u64 0, .int .i64 0, .int .i64 20]) ∧ w' = w := by
  have hI := index_any a n c l hl w hS
  have hl1 := hl.1
  have hx2 := hl.2 x (List.mem_of_getElem? hx)
  rw [hk] at hI
  have HI := Lib.hid hI
  obtain rfl := hS.len
  have hkl : 9 < l.length := (List.getElem?_eq_some_iff.1 hx).1
  obtain ⟨b, off, rfl, hbl, hc⟩ := hS.at_ hx
  have hc' : w.cell? ⟨b, off + 9, none⟩ = some (.int .u8 (x : Int)) := hc
  obtain ⟨n, hn⟩ : ∃ n, l.length = n := ⟨_, rfl⟩
  rw [hn] at hkl hl1 HI ⊢
  clear hI hS hl hk hx hc hn
  go_enter Tryd.func84, Tryd.ntmps84
  go_wp2_with (go_at_call 87; refine HI.out.mono ?_; rintro e w1 ⟨rfl, rfl⟩)
  go_ret3
  exact ⟨rfl, rfl⟩

set_option maxRecDepth 100000 in
set_option maxHeartbeats 1000000 in
theorem whole_zero (a : Option Addr) (n c : Nat) (l : List Nat) (hl : Bytes l) (k : Nat) (hk : lastI l = (k : Nat)) (hk1 : 0 < k) (hk2 : k ≤ 9) (hx : l[k]? = some 0) (w : World) (hS : Sl encY w.heap.size w (.slice a n c) l) :
    Calls Tryd.prog 84 #[.slice a n c] w fun e w' => e = .returned (.tuple #[.int .u64 0, .int .i64 0, .int .i64 20]) ∧ w' = w := by
  have hI := index_any a n c l hl w hS
  have hl1 := hl.1
  rw [hk] at hI
  have HI := Lib.hid hI
  obtain rfl := hS.len
  have hkl : k < l.length := (List.getElem?_eq_some_iff.1 hx).1
  obtain ⟨b, off, rfl, hbl, hc⟩ := hS.at_ hx
  have hc' : w.cell? ⟨b, off + k, none⟩ = some (.int .u8 0) := hc
  obtain ⟨n, hn⟩ : ∃ n, l.length = n := ⟨_, rfl⟩
  rw [hn] at hkl hl1 HI ⊢
  clear hI hS hl hk hx hc hn
  by_cases h9 : k = 9
  · subst h9
    go_enter Tryd.func84, Tryd.ntmps84
    go_wp2_with (go_at_call 87; refine HI.out.mono ?_; rintro e w1 ⟨rfl, rfl⟩)
    go_ret3
    exact ⟨rfl, rfl⟩
  · have h9i : ((k : Int) == 9) = false := beq_eq_false_iff_ne.2 (by omega)
    go_enter Tryd.func84, Tryd.ntmps84
    go_wp2_with (go_at_call 87; refine HI.out.mono ?_; rintro e w1 ⟨rfl, rfl⟩)
    go_ret3
    exact ⟨rfl, rfl⟩
end Go.Proofs.YtocmfdahnekboaaDoor

/- codec.whole: a number that is well. -/
namespace Go.Proofs.YtocmfdahnekboaaDoor
open Go.RowKit
set_option linter.unusedVariables false

/-- What bytes are worth, their lowest seven bits first. -/
def valL : List Nat → Nat
  | [] => 0
  | x :: xs => x % 128 + 128 * valL xs
theorem valL_snoc (x : Nat) : ∀ (l : List Nat), valL (l ++ [x]) = valL l + (x % 128) * 128 ^ l.length
  | [] => by simp [valL]
  | y :: l => by
    have := valL_snoc x l
    simp only [List.cons_append, valL, List.length_cons, this, Nat.pow_succ]
    rw [Nat.mul_add, ← Nat.add_assoc, ← Nat.mul_assoc, Nat.mul_comm 128 (x % 128), Nat.mul_assoc, Nat.mul_comm 128 (128 ^ l.length)]
theorem valL_lt : ∀ (l : List Nat), valL l < 128 ^ l.length
  | [] => by simp [valL]
  | y :: l => by
    have := valL_lt l
    simp only [valL, List.length_cons, Nat.pow_succ]
    omega
theorem valL_or (x : Nat) (l : List Nat) : valL l ||| ((x % 128) * 2 ^ (7 * l.length)) = valL (l ++ [x]) := by
  have h : valL l < 2 ^ (7 * l.length) := by rw [Nat.pow_mul]; exact valL_lt l
  have h2 := Nat.shiftLeft_add_eq_or_of_lt h (x % 128)
  rw [Nat.shiftLeft_eq] at h2
  rw [Nat.or_comm, ← h2, valL_snoc, Nat.pow_mul, show (2 : Nat) ^ 7 = 128 from rfl]
  exact Nat.add_comm _ _
theorem or_step (l : List Nat) (j y : Nat) (hy : l[j]? = some y) (hj : j ≤ 9) (h9 : j = 9 → y ≤ 1) : bits .or .u64 ((valL (l.take j) : Nat) : Int) (IntKind.u64.wrap ((y : Int) % 128 * 2 ^ (7 * j))) = ((valL (l.take (j + 1)) : Nat) : Int) := by
  have hlen : (l.take j).length = j := by rw [List.length_take]; have := (List.getElem?_eq_some_iff.1 hy).1; omega
  have e1 : ((y : Int) % 128 * 2 ^ (7 * j)) = ((y % 128 * 2 ^ (7 * j) : Nat) : Int) := by push_cast; rfl
  have hb : y % 128 * 2 ^ (7 * j) < 18446744073709551616 := by
    rcases (by omega : j ≤ 8 ∨ j = 9) with h | h
    · have h1 : 2 ^ (7 * j) ≤ 2 ^ 56 := Nat.pow_le_pow_right (by decide) (by omega)
      have h2 : y % 128 * 2 ^ (7 * j) ≤ 127 * 2 ^ 56 := Nat.mul_le_mul (by omega) h1
      omega
    · subst h
      have := h9 rfl
      rw [show 2 ^ (7 * 9) = 9223372036854775808 from rfl]
      omega
  have hv : valL (l.take j) < 18446744073709551616 := by
    have h1 := valL_lt (l.take j)
    rw [hlen] at h1
    have h2 : 128 ^ j ≤ 128 ^ 9 := Nat.pow_le_pow_right (by decide) hj
    omega
  have ho := valL_or y (l.take j)
  rw [hlen] at ho
  rw [e1, IntWalk.u64_in _ (by omega), u64_or_nat _ _ hv hb, ho, take_one _ _ _ hy]

set_option maxRecDepth 100000 in
set_option maxHeartbeats 1000000 in
theorem whole_good (a : Option Addr) (n c : Nat) (l : List Nat) (hl : Bytes l) (k x : Nat) (hk : lastI l = (k : Nat)) (hk2 : k ≤ 9) (hx : l[k]? = some x) (h9 : k = 9 → x ≤ 1) (h0 : 0 < k → x ≠ 0) (w : World) (hS : Sl encY w.heap.size w (.slice a n c) l) :
    Calls Tryd.prog 84 #[.slice a n c] w fun e w' => e = .returned (.tuple #[.int .u64 (valL (l.take (k + 1)) : Nat), .int .i64 ((k : Int) + 1), .int .i64 0]) ∧ w' = w := by
  have hI := index_any a n c l hl w hS
  have hl1 := hl.1
  have hcap := hS.capb
  rw [hk] at hI
  have HI := Lib.hid hI
  obtain rfl := hS.len
  have HL := Lib.hid hl.2
  have HS := Lib.hid hS
  have hx2 := hl.2 x (List.mem_of_getElem? hx)
  have hkl : k < l.length := (List.getElem?_eq_some_iff.1 hx).1
  obtain ⟨b, off, rfl, hbl, hc⟩ := hS.at_ hx
  have hc' : w.cell? ⟨b, off + k, none⟩ = some (.int .u8 (x : Int)) := hc
  obtain ⟨n, hn⟩ : ∃ n, l.length = n := ⟨_, rfl⟩
  have HN := Lib.hid hn
  rw [hn] at hkl hl1 HI HS hcap ⊢
  have HX := Lib.hid hx
  clear hI hS hl hk hx hc hn
  have HV : Hid (∀ (j y : Nat), l[j]? = some y → j ≤ k → bits .or .u64 ((valL (l.take j) : Nat) : Int) (IntKind.u64.wrap ((y : Int) % 128 * 2 ^ (7 * j))) = ((valL (l.take (j + 1)) : Nat) : Int)) := Lib.hid (fun j y hy hj => or_step l j y hy (by omega) (fun e => by
    have : k = 9 := by omega
    subst this; subst e
    rw [HX.out] at hy; cases hy; exact h9 rfl))
  have hnb : n ≤ 1048576 := hl1
  rcases (by omega : k = 0 ∨ k = 9 ∨ (0 < k ∧ k < 9)) with hk0 | hk9 | ⟨hk0, hk9⟩
  · subst hk0
    go_enter Tryd.func84, Tryd.ntmps84
    go_wp2_with (go_at_call 87; refine HI.out.mono ?_; rintro e w1 ⟨rfl, rfl⟩)
    go_loop [6, 41] (fun v i => ∃ j : Nat, j ≤ 0 + 1 ∧ i = .int .i64 j ∧ v = .int .u64 (valL (l.take j) : Nat)) (fun _ i => 0 + 1 - (intOf i).toNat)
    case atStart => exact ⟨0, Nat.zero_le _, rfl, rfl⟩
    case round =>
      obtain ⟨j, hj, rfl, rfl⟩ := hrel
      by_cases hlt : j < 0 + 1
      · obtain ⟨y, hy⟩ : ∃ y, l[j]? = some y := ⟨l[j]'(by rw [HN.out]; omega), List.getElem?_eq_getElem _⟩
        obtain ⟨b', off', e', hbl', hcy⟩ := HS.out.at_ hy
        cases e'
        have hcy' : w1.cell? ⟨b, off + j, none⟩ = some (.int .u8 (y : Int)) := hcy
        have hy2 := HL.out y (List.mem_of_getElem? hy)
        have HO := Lib.hid (HV.out j y hy (by omega))
        clear hcy hy
        go_wp2_with fail
        go_round
        case rel => exact ⟨j + 1, by omega, by go_num, by rw [HO.out]⟩
        case measure => simp [intOf]; omega
      · obtain rfl : j = 0 + 1 := by omega
        go_wp2
        go_ret3
        exact ⟨rfl, rfl⟩
  · subst hk9
    have hx1 := h9 rfl
    have hx0 := h0 (by omega)
    have hxi : ((x : Int) == 0) = false := beq_eq_false_iff_ne.2 (by omega)
    go_enter Tryd.func84, Tryd.ntmps84
    go_wp2_with (go_at_call 87; refine HI.out.mono ?_; rintro e w1 ⟨rfl, rfl⟩)
    go_loop [6, 41] (fun v i => ∃ j : Nat, j ≤ 9 + 1 ∧ i = .int .i64 j ∧ v = .int .u64 (valL (l.take j) : Nat)) (fun _ i => 9 + 1 - (intOf i).toNat)
    case atStart => exact ⟨0, Nat.zero_le _, rfl, rfl⟩
    case round =>
      obtain ⟨j, hj, rfl, rfl⟩ := hrel
      by_cases hlt : j < 9 + 1
      · obtain ⟨y, hy⟩ : ∃ y, l[j]? = some y := ⟨l[j]'(by rw [HN.out]; omega), List.getElem?_eq_getElem _⟩
        obtain ⟨b', off', e', hbl', hcy⟩ := HS.out.at_ hy
        cases e'
        have hcy' : w1.cell? ⟨b, off + j, none⟩ = some (.int .u8 (y : Int)) := hcy
        have hy2 := HL.out y (List.mem_of_getElem? hy)
        have HO := Lib.hid (HV.out j y hy (by omega))
        clear hcy hy
        go_wp2_with fail
        go_round
        case rel => exact ⟨j + 1, by omega, by go_num, by rw [HO.out]⟩
        case measure => simp [intOf]; omega
      · obtain rfl : j = 9 + 1 := by omega
        go_wp2
        go_ret3
        exact ⟨rfl, rfl⟩
  · have hx0 := h0 (by omega)
    have h9i : ((k : Int) == 9) = false := beq_eq_false_iff_ne.2 (by omega)
    have hxi : ((x : Int) == 0) = false := beq_eq_false_iff_ne.2 (by omega)
    go_enter Tryd.func84, Tryd.ntmps84
    go_wp2_with (go_at_call 87; refine HI.out.mono ?_; rintro e w1 ⟨rfl, rfl⟩)
    go_loop [6, 41] (fun v i => ∃ j : Nat, j ≤ k + 1 ∧ i = .int .i64 j ∧ v = .int .u64 (valL (l.take j) : Nat)) (fun _ i => k + 1 - (intOf i).toNat)
    case atStart => exact ⟨0, Nat.zero_le _, rfl, rfl⟩
    case round =>
      obtain ⟨j, hj, rfl, rfl⟩ := hrel
      by_cases hlt : j < k + 1
      · obtain ⟨y, hy⟩ : ∃ y, l[j]? = some y := ⟨l[j]'(by rw [HN.out]; omega), List.getElem?_eq_getElem _⟩
        obtain ⟨b', off', e', hbl', hcy⟩ := HS.out.at_ hy
        cases e'
        have hcy' : w1.cell? ⟨b, off + j, none⟩ = some (.int .u8 (y : Int)) := hcy
        have hy2 := HL.out y (List.mem_of_getElem? hy)
        have HO := Lib.hid (HV.out j y hy (by omega))
        clear hcy hy
        go_wp2_with fail
        go_round
        case rel => exact ⟨j + 1, by omega, by go_num, by rw [HO.out]⟩
        case measure => simp [intOf]; omega
      · obtain rfl : j = k + 1 := by omega
        go_wp2
        go_ret3
        exact ⟨rfl, rfl⟩
end Go.Proofs.YtocmfdahnekboaaDoor

/- codec.whole, all cases. -/
namespace Go.Proofs.YtocmfdahnekboaaDoor
open Go.RowKit
set_option linter.unusedVariables false

/-- The number that bytes begin with, how many bytes it is, what is wrong. -/
def wholeR (l : List Nat) : Nat × Nat × Nat :=
  if lastI l < 0 then (0, 0, 21)
  else if 10 ≤ (lastI l).toNat ∨ ((lastI l).toNat = 9 ∧ 1 < l.getD (lastI l).toNat 0) ∨ (0 < (lastI l).toNat ∧ l.getD (lastI l).toNat 0 = 0) then (0, 0, 20)
  else (valL (l.take ((lastI l).toNat + 1)), (lastI l).toNat + 1, 0)

theorem whole_any (a : Option Addr) (n c : Nat) (l : List Nat) (hl : Bytes l) (w : World) (hS : Sl encY w.heap.size w (.slice a n c) l) :
    Calls Tryd.prog 84 #[.slice a n c] w fun e w' => e = .returned (.tuple #[.int .u64 ((wholeR l).1 : Nat), .int .i64 ((wholeR l).2.1 : Nat), .int .i64 ((wholeR l).2.2 : Nat)]) ∧ w' = w := by
  rcases lastI_cases l with hk | ⟨k, x, hk, hx, hlow, hb⟩
  · have e : wholeR l = (0, 0, 21) := by unfold wholeR; rw [hk]; rfl
    rw [e]
    exact whole_short a n c l hl hk w hS
  · have hg : l.getD k 0 = x := by rw [List.getD_eq_getElem?_getD, hx]; rfl
    have e0 : wholeR l = if 10 ≤ k ∨ (k = 9 ∧ 1 < x) ∨ (0 < k ∧ x = 0) then (0, 0, 20) else (valL (l.take (k + 1)), k + 1, 0) := by
      unfold wholeR
      rw [hk, if_neg (by omega), Int.toNat_natCast, hg]
    by_cases h1 : 10 ≤ k
    · rw [e0, if_pos (.inl h1)]
      exact whole_long a n c l hl k hk h1 (List.getElem?_eq_some_iff.1 hx).1 w hS
    · by_cases h2 : k = 9 ∧ 1 < x
      · rw [e0, if_pos (.inr (.inl h2))]
        obtain ⟨rfl, h3⟩ := h2
        exact whole_nine a n c l hl hk x hx h3 w hS
      · by_cases h3 : 0 < k ∧ x = 0
        · rw [e0, if_pos (.inr (.inr h3))]
          obtain ⟨h4, rfl⟩ := h3
          exact whole_zero a n c l hl k hk h4 (by omega) hx w hS
        · rw [e0, if_neg (by omega)]
          exact whole_good a n c l hl k x hk (by omega) hx (by omega) (by omega) w hS

/-- The In at block b: what is left, below n0; what went wrong. -/
structure InB (n0 : Nat) (W : World) (b : Nat) (l : List Nat) (e : Nat) : Prop where
  le : n0 ≤ W.heap.size
  blk : ∃ v, W.heap[b]? = some (.cells #[v, .int .i64 (e : Nat)] 129 (0, 0)) ∧ Sl encY n0 W v l
theorem InB.lt {n0 : Nat} {W : World} {b e : Nat} {l : List Nat} (h : InB n0 W b l e) : b < W.heap.size := by
  obtain ⟨v, h, _⟩ := h.blk
  exact (Array.getElem?_eq_some_iff.1 h).1
theorem InB.below {n0 m : Nat} {W W' : World} {b e : Nat} {l : List Nat} (h : InB n0 W b l e) (hb : Below m W W') (hm : n0 ≤ m) (hbm : b < m) : InB n0 W' b l e := by
  obtain ⟨v, h1, h2⟩ := h.blk
  exact ⟨Nat.le_trans h.le hb.size, v, (hb.block b hbm).trans h1, h2.below (hb.mono hm)⟩
theorem InB.mono {n0 m : Nat} {W : World} {b e : Nat} {l : List Nat} (h : InB n0 W b l e) (hm : n0 ≤ m) (hm2 : m ≤ W.heap.size) : InB m W b l e := by
  obtain ⟨v, h1, h2⟩ := h.blk
  exact ⟨hm2, v, h1, h2.mono hm⟩
end Go.Proofs.YtocmfdahnekboaaDoor
