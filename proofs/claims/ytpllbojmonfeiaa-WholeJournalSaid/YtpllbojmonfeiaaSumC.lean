/- The contract of sum.extend: all parts, byte by byte. -/
import Derived.Test.YtpllbojmonfeiaaSumB
import Derived.Test.YtpllbojmonfeiaaBytes
import Derived.Deep.WholeRow
namespace Go.Proofs.Ytpllbojmonfeiaa
open Go.RowKit SumM

theorem upd_walk {r b x : Nat} (hr : r < 4294967296) (hb : b < 256) (hx : (r % 256) ^^^ b = x) : bits .xor .u32 ((r : Int) / 256) ((turn8 x : Nat) : Int) = ((upd r b : Nat) : Int) := by
  have hx2 : x < 256 := by rw [← hx]; exact Nat.xor_lt_two_pow (n := 8) (by omega) hb
  rw [show (r : Int) / 256 = ((r / 256 : Nat) : Int) from by omega, u32_xor_nat _ _ (by omega) (turn8_lt (by omega))]
  unfold upd
  rw [hx, Nat.shiftRight_eq_div_pow]
theorem idx_walk {r b x : Nat} (hb : b < 256) (hx : (r % 256) ^^^ b = x) : bits .xor .u8 ((r : Int) % 256) (b : Int) = (x : Int) := by
  rw [show (r : Int) % 256 = ((r % 256 : Nat) : Int) from by omega, u8_xor_nat _ _ (by omega) hb, hx]

theorem not_walk {s : Nat} (hs : s < 4294967296) : bits .xor .u32 IntKind.u32.max (s : Int) = ((4294967295 - s : Nat) : Int) := by
  rw [show IntKind.u32.max = ((4294967295 : Nat) : Int) from by decide, u32_xor_nat _ _ (by decide) hs, ← not_xor hs]
theorem hst256 (w : World) : (storeCells ⟨w.heap.size, 0, none⟩ tabA.toList).run Try.prog (w.alloc (.cells zero256 143)) = .ok () (w.alloc (.cells tabA 143)) := by
  have h := run_storeCells_from (P := Try.prog) w.heap.size 143 tabA.toList 0 zero256 (w.alloc (.cells zero256 143)) (World.alloc_heap_new w _) (by have := tab_size; have := zero_size; simp; omega) (fun v hv => (Array.all_eq_true_iff_forall_mem.1 tab_cells) v (by simpa using hv))
  simp only [List.take_zero, List.nil_append, Array.toArray_toList] at h
  rw [World.setRow_alloc_new] at h
  exact h

set_option maxRecDepth 100000 in
set_option maxHeartbeats 2000000 in
theorem extend_any (s : Nat) (hs : s < 4294967296) (a : Option Addr) (n c : Nat) (ls : List (List Nat)) (hn : ls.length ≤ 1048576) (hls : ∀ l ∈ ls, Bytes l) (w : World) (hP : Parts w.heap.size w (.slice a n c) ls) :
    Calls Try.prog 81 #[.int .u32 s, .slice a n c] w fun e w' => e = .returned (.int .u32 (ext s ls.flatten)) ∧ Below w.heap.size w w' := by
  have hal := hal256
  have hin : (Try.prog.info? 143).map (·.size) = some tabA.size := by rw [tab_size]; exact info256
  have HT := Lib.hid turns_any
  have hst := hst256
  have hts := tab_size
  obtain rfl := hP.len
  go_enter Try.func81, Try.ntmps81
  go_wp2_with (go_at_call 90; refine (HT.out _).mono ?_; rintro e w1 ⟨rfl, hb1⟩)
  have hB : Below w.heap.size w (w1.alloc (.cells tabA 143)) := hb1.alloc hb1.size _
  have hR : (w1.alloc (.cells tabA 143)).heap[w1.heap.size]? = some (.cells tabA 143 (0, 0)) := World.alloc_heap_new w1 _
  obtain ⟨W, hW⟩ : ∃ W, w1.alloc (.cells tabA 143) = W := ⟨_, rfl⟩
  rw [hW] at hB hR ⊢
  have HP := Lib.hid (hP.below hB)
  have HC : Hid (∀ x, x < 256 → W.cell? ⟨w1.heap.size, x, none⟩ = some (.int .u32 (turn8 x : Nat))) := Lib.hid fun x hx => by rw [cell_of_row _ _ _ _ _ _ hR]; exact tab_get x hx
  have HN := Lib.hid (not_walk hs)
  have HL := Lib.hid hls
  clear hW hR hst hts hal hin hP hb1 HT hls
  obtain ⟨n, hln⟩ : ∃ n, ls.length = n := ⟨_, rfl⟩
  rw [hln] at hn ⊢
  have HLN := Lib.hid hln
  clear hln
  go_loop [6, 16] (fun v i => ∃ k : Nat, k ≤ n ∧ i = .int .i64 k ∧ v = .int .u32 (updAll (4294967295 - s) (ls.take k).flatten : Nat)) (fun _ i => n - (intOf i).toNat)
  case atStart => exact ⟨0, by omega, rfl, by rw [HN.out]; rfl⟩
  case round =>
    obtain ⟨k, hk, rfl, rfl⟩ := hrel
    have hlt0 : updAll (4294967295 - s) (ls.take k).flatten < 4294967296 := updAll_lt _ (by omega) (fun x hx => by
      obtain ⟨l, h1, h2⟩ := List.mem_flatten.1 hx
      exact (HL.out l (List.mem_of_mem_take h1)).2 x h2)
    by_cases hlt : k < n
    · obtain ⟨l, hl⟩ : ∃ l, ls[k]? = some l := ⟨ls[k]'(by rw [HLN.out]; exact hlt), List.getElem?_eq_getElem _⟩
      obtain ⟨b, off, rfl, hcell⟩ : ∃ b off, a = some ⟨b, off, none⟩ ∧ ∃ v, W.cell? ⟨b, off + k, none⟩ = some v ∧ Sl encY w.heap.size W v l := by
        obtain ⟨b, off, e, _, hc⟩ := HP.out.at_ hl
        exact ⟨b, off, e, hc⟩
      obtain ⟨v, hcv, hS⟩ := hcell
      have HF : Hid ((ls.take (k + 1)).flatten = (ls.take k).flatten ++ l) := Lib.hid (by rw [take_one _ _ _ hl]; simp)
      obtain ⟨hll, hlb⟩ := HL.out l (List.mem_of_getElem? hl)
      obtain ⟨r, hr⟩ : ∃ r, updAll (4294967295 - s) (ls.take k).flatten = r := ⟨_, rfl⟩
      have HR := Lib.hid hr
      rw [hr] at hlt0 ⊢
      clear hl hr
      have HLB := Lib.hid hlb
      clear hlb
      rcases hS with ⟨rfl, va, vc, rfl, _⟩ | ⟨b2, o2, c2, rfl, hb2, hcap2, hc2⟩
      · go_wp2
        go_loop [6, 22] (fun v i => i = .int .i64 0 ∧ v = .int .u32 r) (fun _ _ => 0)
        case atStart => exact ⟨rfl, rfl⟩
        case round =>
          obtain ⟨rfl, rfl⟩ := hrel
          go_wp2
          go_round
          case rel => exact ⟨k + 1, by omega, by go_num, by rw [HF.out, List.append_nil, HR.out]⟩
          case measure => simp [intOf]; omega
      · have HC2 := Lib.hid hc2
        clear hc2
        obtain ⟨m, hm⟩ : ∃ m, l.length = m := ⟨_, rfl⟩
        rw [hm] at hcv hll hcap2
        have HM := Lib.hid hm
        clear hm
        go_wp2
        go_loop [6, 22] (fun v i => ∃ j : Nat, j ≤ m ∧ i = .int .i64 j ∧ v = .int .u32 (updAll r (l.take j) : Nat)) (fun _ i => m - (intOf i).toNat)
        case atStart => exact ⟨0, by omega, rfl, rfl⟩
        case round =>
          obtain ⟨j, hj, rfl, rfl⟩ := hrel
          have hq0 : updAll r (l.take j) < 4294967296 := updAll_lt _ hlt0 (fun x hx => HLB.out x (List.mem_of_mem_take hx))
          by_cases hjm : j < m
          · obtain ⟨y, hy⟩ : ∃ y, l[j]? = some y := ⟨l[j]'(by rw [HM.out]; exact hjm), List.getElem?_eq_getElem _⟩
            have hcy : W.cell? ⟨b2, o2 + j, none⟩ = some (.int .u8 (y : Int)) := HC2.out j y hy
            have hyb := HLB.out y (List.mem_of_getElem? hy)
            have HTK : Hid (updAll r (l.take (j + 1)) = upd (updAll r (l.take j)) y) := Lib.hid (by rw [take_one _ _ _ hy, updAll_snoc])
            obtain ⟨q, hq⟩ : ∃ q, updAll r (l.take j) = q := ⟨_, rfl⟩
            rw [hq] at hq0 HTK ⊢
            obtain ⟨x, hx⟩ : ∃ x, (q % 256) ^^^ y = x := ⟨_, rfl⟩
            have hix := idx_walk hyb hx
            have hx2 : x < 256 := by rw [← hx]; exact Nat.xor_lt_two_pow (n := 8) (by omega) hyb
            have hcx := HC.out x hx2
            have HU := Lib.hid (upd_walk hq0 hyb hx)
            clear hq hx hy
            go_wp2
            go_round
            case rel => exact ⟨j + 1, by omega, by go_num, by rw [HTK.out, ← HU.out]⟩
            case measure => simp [intOf]; omega
          · obtain rfl : j = m := by omega
            go_wp2
            go_round
            case rel => exact ⟨k + 1, by omega, by go_num, by rw [HF.out, updAll_append, HR.out, List.take_of_length_le (by rw [HM.out]; omega)]⟩
            case measure => simp [intOf]; omega
    · obtain rfl : k = n := by omega
      have HE : Hid (bits .xor .u32 IntKind.u32.max ((updAll (4294967295 - s) (ls.take k).flatten : Nat) : Int) = ((ext s ls.flatten : Nat) : Int)) := Lib.hid (by rw [not_walk hlt0, List.take_of_length_le (by rw [HLN.out]; omega)]; rfl)
      obtain ⟨r, hr⟩ : ∃ r, updAll (4294967295 - s) (ls.take k).flatten = r := ⟨_, rfl⟩
      rw [hr] at HE hlt0 ⊢
      clear hr
      go_wp2
      go_ret
      exact ⟨ret_u32 HE.out, hB⟩
end Go.Proofs.Ytpllbojmonfeiaa
