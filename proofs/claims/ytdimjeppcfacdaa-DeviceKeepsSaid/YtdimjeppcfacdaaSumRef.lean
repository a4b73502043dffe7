/- Contracts of the document's own answers for layer 3: bit by bit. -/
import Derived.Test.YtdimjeppcfacdaaSumE
import Derived.Test.YtdimjeppcfacdaaRefJ
namespace Go.Proofs.Ytdimjeppcfacdaa
open Go.RowKit SumM

theorem bitA (y k : Nat) (hy : y < 256) : bits .and .u32 ((y : Int) / 2 ^ k % 4294967296) 1 = ((y / 2 ^ k % 2 : Nat) : Int) := by
  have h1 : ((y : Int) / 2 ^ k) = ((y / 2 ^ k : Nat) : Int) := by rw [Int.natCast_ediv]; norm_cast
  have h2 := Nat.div_le_self y (2 ^ k)
  rw [h1]
  generalize y / 2 ^ k = z at h2 ⊢
  rw [show ((z : Int) % 4294967296) = (z : Int) from by omega, show (1 : Int) = ((1 : Nat) : Int) from rfl, u32_and_nat _ _ (by omega) (by decide), Nat.and_one_is_mod]
theorem bitB (q : Nat) (hq : q < 4294967296) : bits .and .u32 (q : Int) 1 = ((q % 2 : Nat) : Int) := by
  rw [show (1 : Int) = ((1 : Nat) : Int) from rfl, u32_and_nat _ _ hq (by decide), Nat.and_one_is_mod]
theorem refBit_walk {q c : Nat} (hq : q < 4294967296) (h : c ≠ q % 2) : bits .xor .u32 ((q : Int) / 2) 2197175160 = ((refBit q c : Nat) : Int) := by
  rw [show (q : Int) / 2 = ((q / 2 : Nat) : Int) from by omega, show (2197175160 : Int) = ((2197175160 : Nat) : Int) from rfl, u32_xor_nat _ _ (by omega) (by decide)]
  unfold refBit; rw [if_pos h]; rfl
theorem sumL_eq (l : List Nat) (hl : ∀ x ∈ l, x < 256) : bits .xor .u32 ((updAll 4294967295 l : Nat) : Int) 4294967295 = ((sumL l : Nat) : Int) := by
  rw [show (4294967295 : Int) = ((4294967295 : Nat) : Int) from rfl, u32_xor_nat _ _ (updAll_lt l (by decide) hl) (by decide), Nat.xor_comm, ← not_xor (updAll_lt l (by decide) hl)]; rfl

set_option maxRecDepth 100000 in
set_option maxHeartbeats 2000000 in
theorem refOf_any (a : Option Addr) (n c : Nat) (l : List Nat) (hl : Bytes l) (w : World) (hS : Sl encY w.heap.size w (.slice a n c) l) :
    Calls Try.prog 136 #[.slice a n c] w fun e w' => e = .returned (.int .u32 (sumL l : Nat)) ∧ w = w' := by
  obtain rfl := hS.len
  have HS := Lib.hid hS
  obtain ⟨hl1, hl2⟩ := hl
  have HL2 := Lib.hid hl2
  clear hS hl2
  obtain ⟨n, hn⟩ : ∃ n, l.length = n := ⟨_, rfl⟩
  have HL := Lib.hid hn
  rw [hn] at hl1 ⊢
  clear hn
  go_enter Try.func136, Try.ntmps136
  go_wp2
  go_loop [3, 4] (fun v i => ∃ k : Nat, k ≤ n ∧ i = .int .i64 k ∧ v = .int .u32 (updAll 4294967295 (l.take k) : Nat)) (fun _ i => n - (intOf i).toNat)
  case atStart => exact ⟨0, by omega, rfl, rfl⟩
  case round =>
    obtain ⟨k, hk, rfl, rfl⟩ := hrel
    have hr := updAll_lt (r := 4294967295) (l.take k) (by decide) (fun x hx => HL2.out x (List.mem_of_mem_take hx))
    by_cases hlt : k < n
    · obtain ⟨y, hy⟩ : ∃ y, l[k]? = some y := ⟨l[k]'(by rw [HL.out]; exact hlt), List.getElem?_eq_getElem _⟩
      obtain ⟨b, off, rfl, hb, hc⟩ := HS.out.at_ hy
      have hyb := HL2.out y (List.mem_of_getElem? hy)
      have hcy : w.cell? ⟨b, off + k, none⟩ = some (.int .u8 (y : Int)) := hc
      have HTK : Hid (updAll 4294967295 (l.take (k + 1)) = upd (updAll 4294967295 (l.take k)) y) := Lib.hid (by rw [take_one _ _ _ hy, updAll_snoc])
      obtain ⟨r, hre⟩ : ∃ r, updAll 4294967295 (l.take k) = r := ⟨_, rfl⟩
      rw [hre] at hr HTK ⊢
      clear hre hy hc
      go_wp2
      go_loop [3, 5] (fun v i => ∃ j : Nat, j ≤ 8 ∧ i = .int .i64 j ∧ v = .int .u32 (refN y j r : Nat)) (fun _ i => 8 - (intOf i).toNat)
      case atStart => exact ⟨0, by omega, rfl, rfl⟩
      case round =>
        obtain ⟨j, hj, rfl, rfl⟩ := hrel
        have hq := refN_lt y hr j
        by_cases hj8 : j < 8
        · have hA := bitA y j hyb
          have HS2 : Hid (refN y (j + 1) r = refBit (refN y j r) (y / 2 ^ j % 2)) := Lib.hid rfl
          obtain ⟨q, hqe⟩ : ∃ q, refN y j r = q := ⟨_, rfl⟩
          rw [hqe] at hq HS2 ⊢
          have hB := bitB q hq
          obtain ⟨u, hu⟩ : ∃ u, y / 2 ^ j % 2 = u := ⟨_, rfl⟩
          rw [hu] at hA HS2
          clear hu hqe
          by_cases hud : u = q % 2
          · have hne : ((u : Int) != ((q % 2 : Nat) : Int)) = false := by rw [hud]; simp
            have HU : Hid (refBit q u = q / 2) := Lib.hid (by unfold refBit; rw [if_neg (by simp [hud])])
            obtain ⟨d, hd⟩ : ∃ d, q % 2 = d := ⟨_, rfl⟩
            rw [hd] at hB hne
            clear hud hd
            go_wp2
            go_round
            case rel => exact ⟨j + 1, by omega, by go_num, by rw [HS2.out, HU.out]; push_cast; rfl⟩
            case measure => simp [intOf]; omega
          · have hne : ((u : Int) != ((q % 2 : Nat) : Int)) = true := by rw [bne_iff_ne]; omega
            have HU := Lib.hid (refBit_walk hq hud)
            obtain ⟨d, hd⟩ : ∃ d, q % 2 = d := ⟨_, rfl⟩
            rw [hd] at hB hne
            clear hud hd
            go_wp2
            go_round
            case rel => exact ⟨j + 1, by omega, by go_num, by rw [HS2.out, ← HU.out]⟩
            case measure => simp [intOf]; omega
        · obtain rfl : j = 8 := by omega
          have HU : Hid (refN y 8 r = upd r y) := Lib.hid (refN_upd r y hyb)
          go_wp2
          go_round
          case rel => exact ⟨k + 1, by omega, by go_num, by rw [HTK.out, HU.out]⟩
          case measure => simp [intOf]; omega
    · obtain rfl : k = n := by omega
      have HE := Lib.hid (sumL_eq l HL2.out)
      rw [List.take_of_length_le (by rw [HL.out]; omega)] at hr ⊢
      go_wp2
      go_ret
      exact ⟨ret_u32 HE.out, rfl⟩

theorem sum4_div (s : Nat) (hs : s < 4294967296) : s / 16777216 % 256 = s / 16777216 := by omega
set_option maxRecDepth 100000 in
set_option maxHeartbeats 1000000 in
theorem refSeal_any (a : Option Addr) (n c : Nat) (l : List Nat) (hl : Bytes l) (w : World) (hS : Sl encY w.heap.size w (.slice a n c) l) :
    Calls Try.prog 125 #[.slice a n c] w fun e w' => ∃ v, e = .returned v ∧ w'.ownsRow w.heap.size 5 1 v (sealL l).length ((sealL l).map encY) ∧ Below w.heap.size w w' := by
  have HO := Lib.hid (refOf_any a n c l hl w hS)
  have HC := Lib.hid (copyY_any a n c l hl.1 w hS)
  have hl1 := hl.1
  have hs := sumL_lt l
  clear hS hl
  go_enter Try.func125, Try.ntmps125
  have HQ : Hid (∀ (w3 : World), Sl encY (w3.alloc (.cells #[Value.int .u8 ((sumL l : Int) % 256), Value.int .u8 ((sumL l : Int) / 256 % 256), Value.int .u8 ((sumL l : Int) / 65536 % 256), Value.int .u8 ((sumL l : Int) / 16777216)] 5)).heap.size (w3.alloc (.cells #[Value.int .u8 ((sumL l : Int) % 256), Value.int .u8 ((sumL l : Int) / 256 % 256), Value.int .u8 ((sumL l : Int) / 65536 % 256), Value.int .u8 ((sumL l : Int) / 16777216)] 5)) (.slice (some ⟨w3.heap.size, 0, none⟩) 4 4) (sum4 (sumL l))) :=
    Lib.hid fun w3 => Sl.lit encY w3 5 (sum4 (sumL l)) _ (by simp [sum4, encY]; omega)
  go_wp2_with (first | (go_at_call 136; refine HO.out.mono ?_; rintro e w' ⟨rfl, rfl⟩) | (go_at_call 24; refine HC.out.mono ?_; rintro e w1 ⟨v1, rfl, hown1, hb1⟩; have HOW := Lib.hid hown1; clear hown1) | (at_builtin; refine wpList_append_bytes _ rfl (.tmp 7) (.tmp 22) rfl w.heap.size _ l.length (l.map encY) rfl (HOW.out.alloc _) _ _ (sum4 (sumL l)) rfl (HQ.out w1) (by simp [sum4]; omega) (by have := hb1.size; simp; omega) ?_))
  intro v4 w4 hown4 hg4
  have hb4 : Below w.heap.size w w4 := below_grown (HOW.out.alloc _) (by have := hb1.size; simp; omega) (hb1.alloc hb1.size _) hg4
  have HO4 : Hid (w4.ownsRow w.heap.size 5 1 v4 (sealL l).length ((sealL l).map encY)) := Lib.hid (by rw [seal_len]; unfold sealL; rw [List.map_append]; exact hown4)
  clear hown4 hg4
  go_wp2
  go_ret
  exact ⟨_, rfl, HO4.out, hb4⟩

set_option maxRecDepth 100000 in
set_option maxHeartbeats 1000000 in
theorem refOpen_any (a : Option Addr) (n c : Nat) (l : List Nat) (hl : Bytes l) (w : World) (hS : Sl encY w.heap.size w (.slice a n c) l) :
    Calls Try.prog 104 #[.slice a n c] w fun e w' => ∃ v, e = .returned (.tuple #[v, .bool (openL l).isSome]) ∧ Sl encY w'.heap.size w' v ((openL l).getD []) ∧ Below w.heap.size w w' := by
  obtain rfl := hS.len
  by_cases h4 : l.length < 4
  · rw [show openL l = none from if_pos h4]
    obtain ⟨hl1, _⟩ := hl
    obtain ⟨n, hn⟩ : ∃ n, l.length = n := ⟨_, rfl⟩
    rw [hn] at h4 hl1 ⊢
    clear hn hS
    go_enter Try.func104, Try.ntmps104
    go_wp2
    go_ret2
    exact ⟨_, rfl, Sl.nil _ _ _, Below.refl _ _⟩
  · obtain ⟨b, off, rfl, hb, hcap⟩ : ∃ b off, a = some ⟨b, off, none⟩ ∧ b < w.heap.size ∧ l.length ≤ c := by
      rcases hS with ⟨rfl, _⟩ | ⟨b, off, cap, e, hb, hcap, _⟩
      · simp at h4
      · cases e; exact ⟨b, off, rfl, hb, hcap⟩
    have hT := hS.cut (k := l.length - 4) (by omega) c (by omega)
    have hlt : Bytes (l.take (l.length - 4)) := ⟨by have := hl.1; simp; omega, fun x hx => hl.2 x (List.mem_of_mem_take hx)⟩
    have hlen : (l.take (l.length - 4)).length = l.length - 4 := by simp
    have hop : openL l = if sealL (l.take (l.length - 4)) = l then some (l.take (l.length - 4)) else none := if_neg h4
    obtain ⟨t, ht⟩ : ∃ t, l.take (l.length - 4) = t := ⟨_, rfl⟩
    rw [ht] at hT hlt hlen hop
    have HSE := Lib.hid (refSeal_any _ _ _ t hlt w hT)
    have HS := Lib.hid hS
    have HO := Lib.hid hop
    have HB := Lib.hid hl
    have hl1 := hl.1
    have HT := Lib.hid hT
    obtain ⟨n, hn⟩ : ∃ n, l.length = n := ⟨_, rfl⟩
    obtain ⟨m, hm⟩ : ∃ m, n - 4 = m := ⟨_, rfl⟩
    have hnm : n = m + 4 := by omega
    rw [hn] at h4 hlen hcap hl1 HSE HS HT ⊢
    rw [hm] at hlen HSE HT
    have hsub : ((n : Int) - 4) = (m : Int) := by omega
    have HM := Lib.hid hnm
    have HTL := Lib.hid hlen
    have HLT := Lib.hid hlt
    have hmc : m ≤ c := by omega
    have hml : m ≤ 1048576 := by omega
    clear ht hop hS hT hlt hl hn hm hnm hlen
    go_enter Try.func104, Try.ntmps104
    go_wp2_with (go_at_call 125; refine HSE.out.mono ?_; rintro e w1 ⟨v, rfl, hown, hb1⟩)
    have hSv := Sl.of_owns hown
    have hsl : (sealL t).length = m + 4 := by rw [seal_len, HTL.out]
    have hbb : Bytes (sealL t) := ⟨by rw [hsl]; have := HM.out; omega, seal_bytes HLT.out.2⟩
    obtain ⟨g, cap, rfl⟩ : ∃ g cap, v = .slice (some ⟨g, 0, none⟩) (m + 4) cap := by
      rcases hown.2 with ⟨_, e⟩ | ⟨g, cap, cur, e, _⟩
      · rw [hsl] at e; omega
      · rw [hsl] at e; exact ⟨g, cap, e⟩
    have HST := Lib.hid (HS.out.below hb1)
    have HEQ := Lib.hid (sameY_any _ _ _ _ _ _ (sealL t) l w1 hbb.1 HB.out.1 hSv (HST.out.mono hb1.size))
    clear hbb hsl hSv hown
    by_cases heq : sealL t = l
    · rw [show decide (sealL t = l) = true from decide_eq_true heq] at HEQ
      have HR : Hid (openL l = some t) := Lib.hid (by rw [HO.out, if_pos heq])
      clear heq
      go_wp2_with (first | (go_at_call 28; refine HEQ.out.mono ?_; rintro e w2 ⟨rfl, hb2⟩; have hb02 := hb1.trans (hb2.mono hb1.size); have HT2 := Lib.hid ((HT.out.below hb02).mono hb02.size)) | (go_at_call 24; refine (copyY_any _ _ _ t HLT.out.1 _ HT2.out).mono ?_; rintro e w3 ⟨v3, rfl, hown3, hb3⟩; have H3 := Lib.hid (Sl.of_owns hown3); clear hown3))
      go_ret2
      exact ⟨_, by rw [HR.out]; rfl, by rw [HR.out]; exact H3.out, hb02.trans (hb3.mono hb02.size)⟩
    · rw [show decide (sealL t = l) = false from decide_eq_false heq] at HEQ
      have HR : Hid (openL l = none) := Lib.hid (by rw [HO.out, if_neg heq])
      clear heq
      go_wp2_with (go_at_call 28; refine HEQ.out.mono ?_; rintro e w2 ⟨rfl, hb2⟩)
      go_ret2
      exact ⟨_, by rw [HR.out]; rfl, by rw [HR.out]; exact Sl.nil _ _ _, hb1.trans (hb2.mono hb1.size)⟩
end Go.Proofs.Ytdimjeppcfacdaa
