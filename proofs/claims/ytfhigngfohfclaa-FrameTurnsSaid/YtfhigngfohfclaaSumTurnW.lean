/- The contract of the document's Turn. -/
import Derived.Test.YtfhigngfohfclaaSumTurn
namespace Go.Proofs.Ytfhigngfohfclaa
open Go.RowKit SumM

set_option maxRecDepth 100000 in
set_option maxHeartbeats 2000000 in
theorem refTurn_any (a : Option Addr) (n c : Nat) (l : List Nat) (hl : Bytes l) (h0 : l ≠ []) (at' m : Nat) (hat : at' < 8 * l.length) (hm : m < 4294967296) (w : World) (hS : Sl encY w.heap.size w (.slice a n c) l) :
    Calls Try.prog 61 #[.slice a n c, .int .i64 at', .int .u32 m] w fun e w' => ∃ v, e = .returned v ∧ w'.ownsRow w.heap.size 5 1 v l.length ((turnL l (m * 2 ^ at')).map encY) ∧ Below w.heap.size w w' := by
  have HC := Lib.hid (copyY_any a n c l hl.1 w hS)
  obtain ⟨hl1, hl2⟩ := hl
  have HL2 := Lib.hid hl2
  obtain rfl := hS.len
  have hpos : 0 < l.length := List.length_pos_iff.2 h0
  clear hS hl2 h0
  obtain ⟨n, hn⟩ : ∃ n, l.length = n := ⟨_, rfl⟩
  have HL := Lib.hid hn
  rw [hn] at hl1 hpos hat HC ⊢
  clear hn
  go_enter Try.func61, Try.ntmps61
  go_wp2_with (go_at_call 23; refine HC.out.mono ?_; rintro e w1 ⟨v, rfl, hown, hb1⟩)
  obtain ⟨g, cap, rfl, hgb⟩ : ∃ g cap, v = .slice (some ⟨g, 0, none⟩) n cap ∧ w.heap.size ≤ g := by
    rcases hown.2 with ⟨_, e⟩ | ⟨g, cap, cur, e, hg, _⟩
    · omega
    · exact ⟨g, cap, e, hg⟩
  go_loopw [8] (fun i wr => ∃ k : Nat, k ≤ 32 ∧ i = .int .i64 k ∧ wr.ownsRow w.heap.size 5 1 (.slice (some ⟨g, 0, none⟩) n cap) n ((turnL l (turnD at' m k)).map encY) ∧ Below w.heap.size w wr) (fun i _ => 32 - (intOf i).toNat)
  case atStart => exact ⟨0, by omega, rfl, by rw [turnD_zero, turnL_zero]; exact hown, hb1⟩
  case round =>
    clear hown hb1
    obtain ⟨k, hk, rfl, hown, hnx⟩ := hrel
    have HO := Lib.hid hown
    by_cases hlt : k < 32
    · obtain ⟨i, hi⟩ : ∃ i : Nat, at' + k = i := ⟨_, rfl⟩
      have hiI : (at' : Int) + (k : Int) = (i : Int) := by omega
      rcases Nat.mod_two_eq_zero_or_one (m / 2 ^ k) with hbit | hbit
      · have hq : bits .and .u32 ((m : Int) / 2 ^ k) 1 = 0 := by
          rw [show ((m : Int) / 2 ^ k) = ((m / 2 ^ k : Nat) : Int) from by rw [Int.natCast_ediv]; norm_cast, bitB _ (Nat.lt_of_le_of_lt (Nat.div_le_self _ _) hm), hbit]; rfl
        have HN : Hid (turnD at' m (k + 1) = turnD at' m k) := Lib.hid (turnD_no _ _ _ hbit)
        clear hown hbit hi
        go_wp2
        go_roundw
        case rel => exact ⟨k + 1, by omega, by go_num, by rw [HN.out]; exact HO.out, hnx⟩
        case measure => simp [intOf]; omega
      · have hq : bits .and .u32 ((m : Int) / 2 ^ k) 1 = 1 := by
          rw [show ((m : Int) / 2 ^ k) = ((m / 2 ^ k : Nat) : Int) from by rw [Int.natCast_ediv]; norm_cast, bitB _ (Nat.lt_of_le_of_lt (Nat.div_le_self _ _) hm), hbit]; rfl
        have HN : Hid (turnD at' m (k + 1) = turnD at' m k ^^^ 2 ^ i) := Lib.hid (by rw [turnD_yes _ _ _ hbit, hi])
        by_cases hin : (i : Int) < 8 * (n : Int)
        · have hd : i / 8 < n := by omega
          obtain ⟨x, hx⟩ : ∃ x, (turnL l (turnD at' m k))[i / 8]? = some x := ⟨_, List.getElem?_eq_getElem (by rw [turnL_len, HL.out]; exact hd)⟩
          have hxb := turnL_lt l (turnD at' m k) HL2.out x (List.mem_of_getElem? hx)
          have hcell := hown.cellAt (i / 8) (by omega)
          rw [List.getElem?_map, hx] at hcell
          have hfr := hown.frozenAt (i / 8)
          have HSET := Lib.hid (turnL_set l (turnD at' m k) i x (by rw [HL.out]; exact hd) hx)
          have hst := hown.stored (i / 8)
          obtain ⟨d, hdq⟩ : ∃ d, i / 8 = d := ⟨_, rfl⟩
          obtain ⟨r, hr⟩ : ∃ r, i % 8 = r := ⟨_, rfl⟩
          have hdI : (i : Int) / 8 = (d : Int) := by omega
          have hrI : (i : Int) % 8 = (r : Int) := by omega
          have hr8 : r < 8 := by omega
          have hcx : wr.cell? ⟨g, d, none⟩ = some (.int .u8 (x : Int)) := by rw [← hdq]; exact hcell
          rw [hdq] at hfr hd HSET hst
          have HST := Lib.hid hst
          have HX : Hid (Value.int .u8 (bits .xor .u8 (x : Int) (2 ^ r % 256)) = encY (x ^^^ 2 ^ r)) := Lib.hid (by
            have h2 : (2 : Nat) ^ r < 256 := Nat.lt_of_lt_of_le (Nat.pow_lt_pow_right (by decide) hr8) (by decide)
            have h3 : ((2 : Int) ^ r % 256) = ((2 ^ r : Nat) : Int) := by
              have : ((2 : Int) ^ r) = ((2 ^ r : Nat) : Int) := by norm_cast
              rw [this]
              generalize (2 : Nat) ^ r = z at h2 ⊢
              omega
            rw [h3, u8_xor_nat _ _ hxb h2]; rfl)
          rw [hr] at HSET
          clear hown hbit hi hx hcell hdq hr hst
          go_wp2
          go_region
          go_wp2
          go_roundw
          case rel =>
            refine ⟨k + 1, by omega, by go_num, ?_, (hnx.setCell (p := ⟨g, d, none⟩) hgb _).drew⟩
            have h1 := (HST.out (encY (x ^^^ 2 ^ r))).1
            rw [← List.map_set, HSET.out, ← HN.out] at h1
            rw [HX.out]
            exact h1.drew
          case measure => simp [intOf]; omega
        · have HT : Hid (turnL l (turnD at' m k ^^^ 2 ^ i) = turnL l (turnD at' m k)) := Lib.hid (turnL_out _ _ _ (by rw [HL.out]; omega))
          clear hown hbit hi
          go_wp2
          go_roundw
          case rel => exact ⟨k + 1, by omega, by go_num, by rw [HN.out, HT.out]; exact HO.out, hnx⟩
          case measure => simp [intOf]; omega
    · obtain rfl : k = 32 := by omega
      have HE : Hid (turnD at' m 32 = m * 2 ^ at') := Lib.hid (by unfold turnD; rw [Nat.mod_eq_of_lt hm])
      clear hown
      go_wp2
      go_ret
      exact ⟨_, rfl, by rw [← HE.out]; exact HO.out, hnx⟩
end Go.Proofs.Ytfhigngfohfclaa
