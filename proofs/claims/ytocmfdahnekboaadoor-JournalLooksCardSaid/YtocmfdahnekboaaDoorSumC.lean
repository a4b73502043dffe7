/- Contracts of the calls of package sum that reckon a register. -/
import Derived.Test.YtocmfdahnekboaaDoorSlices
import Derived.Test.YtocmfdahnekboaaDoorSumMath
import Derived.IntWalk
import Derived.Laws.BitsAllLaws
import Derived.LoopTactic
import Derived.Outline
import Derived.RegionTactic
import Derived.BigRegion
import Derived.Laws.Rows
import Derived.Great.BuildSlice
import Derived.Test.YtocmfdahnekboaaDoorBytes
import Derived.Deep.WholeRow
namespace Go.Proofs.YtocmfdahnekboaaDoor
open Go.RowKit SumM

theorem ret_u32 {x a : Int} (h1 : x = a) : Ending.returned (.int .u32 x) = .returned (.int .u32 a) := by rw [h1]

theorem bit_walk {r : Nat} (h : r < 4294967296) : bits .xor .u32 ((r : Int) / 2) (bits .and .u32 (r : Int) 1 * 2197175160 % 4294967296) = ((bit1 r : Nat) : Int) := by
  have e1 : bits .and .u32 (r : Int) 1 = ((r &&& 1 : Nat) : Int) := u32_and_nat r 1 h (by decide)
  have e2 : bits .and .u32 (r : Int) 1 * 2197175160 % 4294967296 = (((r &&& 1) * pol : Nat) : Int) := by
    rw [e1]
    rcases and1_cases r with e | e <;> rw [e] <;> decide
  have hlt : (r &&& 1) * pol < 4294967296 := by rcases and1_cases r with e | e <;> rw [e] <;> simp [pol]
  rw [e2, show (r : Int) / 2 = ((r / 2 : Nat) : Int) from by omega, u32_xor_nat _ _ (by omega) hlt]
  unfold bit1
  rw [Nat.shiftRight_eq_div_pow]

set_option maxRecDepth 100000 in
set_option maxHeartbeats 1000000 in
theorem turn_any (r : Nat) (hr : r < 4294967296) (w : World) :
    Calls Tryd.prog 86 #[.int .u32 r] w fun e w' => e = .returned (.int .u32 (turn8 r)) ∧ w = w' := by
  go_enter Tryd.func86, Tryd.ntmps86
  go_wp2
  go_loop [0, 4] (fun v i => ∃ k : Nat, k ≤ 8 ∧ i = .int .i64 k ∧ v = .int .u32 (turnN k r)) (fun _ i => 8 - (intOf i).toNat)
  case atStart => exact ⟨0, by omega, rfl, rfl⟩
  case round =>
    obtain ⟨k, hk, rfl, rfl⟩ := hrel
    have hl := turnN_lt hr k
    by_cases hlt : k < 8
    · have HW := Lib.hid (bit_walk hl)
      have HS : Hid (turnN (k + 1) r = bit1 (turnN k r)) := Lib.hid rfl
      obtain ⟨q, hq⟩ : ∃ q, turnN k r = q := ⟨_, rfl⟩
      rw [hq] at HW HS hl ⊢
      clear hq
      go_wp2
      go_round
      case rel => exact ⟨k + 1, by omega, by go_num, by rw [HS.out, ← HW.out]⟩
      case measure => simp [intOf]; omega
    · obtain rfl : k = 8 := by omega
      go_wp2
      go_ret
      exact ⟨rfl, rfl⟩
end Go.Proofs.YtocmfdahnekboaaDoor

/- The contract of sum.turns: the table. -/
namespace Go.Proofs.YtocmfdahnekboaaDoor
open Go.RowKit SumM

def zero256 : Array Value := Array.replicate 256 (.int .u32 0)
theorem zero_size : zero256.size = 256 := by decide +kernel
def tabC (j : Nat) : Value := .int .u32 (turn8 j : Nat)
/-- The table as an array's value. -/
def tabA : Array Value := ((List.range 256).map tabC).toArray
theorem tab_size : tabA.size = 256 := by decide +kernel
theorem tab_get (j : Nat) (h : j < 256) : tabA[j]? = some (tabC j) := by simp [tabA, h]
theorem tab_ext (cs : Array Value) (hs : cs.size = 256) (h : ∀ j, j < 256 → cs[j]? = some (tabC j)) : cs = tabA := by
  apply Array.ext_getElem?
  intro j
  by_cases hj : j < 256
  · rw [h j hj, tab_get j hj]
  · rw [Array.getElem?_eq_none (by omega), Array.getElem?_eq_none (by rw [tab_size]; omega)]
theorem tab_cells : tabA.all (·.oneCell') = true := by decide +kernel

/-- The lowest bit of a number below 256. -/
def lowB (n : Nat) : Nat := n &&& (256 - n)
theorem low_walk : ∀ n : Nat, n < 256 → bits .and .i64 (n : Int) (-(n : Int)) = ((lowB n : Nat) : Int) := by decide +kernel
theorem low_le : ∀ n : Nat, n < 256 → lowB n ≤ n := by decide +kernel
theorem low_split : ∀ n : Nat, n < 256 → lowB n ≠ n → lowB n < n ∧ n - lowB n < n ∧ lowB n ^^^ (n - lowB n) = n := by decide +kernel
theorem turn8_lt {n : Nat} (h : n < 4294967296) : turn8 n < 4294967296 := turnN_lt h 8
theorem turn8_split {n b : Nat} (h : b ^^^ (n - b) = n) : turn8 b ^^^ turn8 (n - b) = turn8 n := by rw [← turn8_xor, h]

theorem hal256 (w : World) : (zeroValue 124).run Tryd.prog w = .ok (.agg zero256) w := by kernel_rfl

theorem info256 : (Tryd.prog.info? 124).map (·.size) = some 256 := by kernel_rfl
theorem below_setRow {B : Nat} {a w : World} (h : Below B a w) {g : Nat} (hg : B ≤ g) (cs : Array Value) : Below B a (w.setRow g cs) :=
  h.trans ⟨rfl, rfl, rfl, by simp, fun k hk => setRow_other w g k cs (by omega)⟩

/-- What the loop has laid. -/
def TabTo (w : World) (k : Nat) (wr : World) : Prop :=
  (∃ cs : Array Value, cs.size = 256 ∧ (∀ j, j < k → cs[j]? = some (tabC j)) ∧ wr.heap[w.heap.size + 1]? = some (.cells cs 124 (0, 0))) ∧ wr.heap[w.heap.size]? = some (.cells zero256 124 (0, 0)) ∧ wr.heap.size = w.heap.size + 2 ∧ Below w.heap.size w wr
theorem TabTo.set {w wr : World} {k : Nat} (h : TabTo w k wr) (hk : k < 256) (v : Value) (hv : v = tabC k) : TabTo w (k + 1) (wr.setCell ⟨w.heap.size + 1, k, none⟩ v) := by
  obtain ⟨⟨cs, hs, hc, h1⟩, h0, hz, hb⟩ := h
  refine ⟨⟨_, ?_, ?_, heap_setCell_same wr _ k cs _ v h1⟩, ?_, ?_, hb.setCell (by simp) _⟩
  · simp [hs]
  · intro j hj
    rw [Array.getElem?_setIfInBounds]
    by_cases e : k = j
    · subst e; rw [if_pos rfl, if_pos (by omega), hv]
    · rw [if_neg e, hc j (by omega)]
  · rw [Below.heap_setCell _ _ _ _ (by simp)]; exact h0
  · simp [World.setCell, hz]
theorem TabTo.drew {w wr : World} {k : Nat} (h : TabTo w k wr) : TabTo w k wr.drew := ⟨h.1, h.2.1, h.2.2.1, h.2.2.2.drew⟩
theorem TabTo.cell {w wr : World} {k : Nat} (h : TabTo w k wr) (j : Nat) (hj : j < k) : wr.cell? ⟨w.heap.size + 1, j, none⟩ = some (.int .u32 (turn8 j : Nat)) := by
  obtain ⟨⟨cs, hs, hc, h1⟩, _⟩ := h
  rw [cell_of_row _ _ _ _ _ _ h1]; exact hc j hj
theorem TabTo.any {w wr : World} {k : Nat} (h : TabTo w k wr) (j : Nat) (hj : j < 256) : ∃ v, wr.cell? ⟨w.heap.size + 1, j, none⟩ = some v := by
  obtain ⟨⟨cs, hs, hc, h1⟩, _⟩ := h
  rw [cell_of_row _ _ _ _ _ _ h1]; exact ⟨_, Array.getElem?_eq_getElem (by omega)⟩
theorem TabTo.frozen {w wr : World} {k : Nat} (h : TabTo w k wr) (j : Nat) : wr.frozen? ⟨w.heap.size + 1, j, none⟩ = false := by
  obtain ⟨⟨cs, hs, hc, h1⟩, _⟩ := h
  exact frozen_of_row _ _ _ _ _ h1
theorem TabTo.zero (w : World) : TabTo w 0 ((w.alloc (.cells zero256 124)).alloc (.cells zero256 124)) :=
  ⟨⟨zero256, zero_size, fun j hj => by omega, heap_alloc2_new _ _ _⟩, heap_alloc2_old _ _ _, by simp, ((Below.refl _ w).alloc (Nat.le_refl _) _).alloc (by simp) _⟩

set_option maxRecDepth 100000 in
set_option maxHeartbeats 1000000 in
theorem turns_any (w : World) :
    Calls Tryd.prog 83 #[] w fun e w' => e = .returned (.agg tabA) ∧ Below w.heap.size w w' := by
  have hal := hal256
  go_enter Tryd.func83, Tryd.ntmps83
  go_wp2
  go_loopw [4] (fun i wr => ∃ k : Nat, k ≤ 256 ∧ i = .int .i64 k ∧ TabTo w k wr) (fun i _ => 256 - (intOf i).toNat)
  case atStart => exact ⟨0, by omega, rfl, TabTo.zero w⟩
  case round =>
    obtain ⟨k, hk, rfl, hT⟩ := hrel
    by_cases hlt : k < 256
    · have HT := Lib.hid hT
      have hlw := low_walk k hlt
      have hle := low_le k hlt
      have HSP := Lib.hid (low_split k hlt)
      obtain ⟨v, hcv⟩ := hT.any k hlt
      have hfv := hT.frozen k
      obtain ⟨b, hb⟩ : ∃ b, lowB k = b := ⟨_, rfl⟩
      rw [hb] at hlw hle HSP
      clear hb hT
      by_cases hq : b = k
      · have hq2 : ((b : Int) != (k : Int)) = false := by rw [hq]; simp
        clear HSP
        go_wp2_with (go_at_call 86; refine (turn_any k (by omega) _).mono ?_; rintro e w' ⟨rfl, rfl⟩)
        go_roundw
        case rel => exact ⟨k + 1, by omega, by go_num, HT.out.set hlt _ rfl⟩
        case measure => simp [intOf]; omega
      · have hq2 : ((b : Int) != (k : Int)) = true := by rw [bne_iff_ne]; omega
        obtain ⟨h1, h2, h3⟩ := HSP.out hq
        have hc1 := HT.out.cell b h1
        have hc2 := HT.out.cell (k - b) h2
        have HX : Hid (bits .xor .u32 ((turn8 b : Nat) : Int) ((turn8 (k - b) : Nat) : Int) = ((turn8 k : Nat) : Int)) := Lib.hid (by rw [u32_xor_nat _ _ (turn8_lt (by omega)) (turn8_lt (by omega)), turn8_split h3])
        obtain ⟨c, hc⟩ : ∃ c : Nat, k - b = c := ⟨_, rfl⟩
        have hsub : ((k : Int) - (b : Int)) = (c : Int) := by omega
        have hwr : IntKind.i64.wrap ((k : Int) - (b : Int)) = (c : Int) := by rw [hsub]; exact IntWalk.i64_in _ (by omega)
        have hc0 : (0 : Int) ≤ (c : Int) := by omega
        have hcl : c < 256 := by omega
        rw [hc] at hc2 HX h2
        clear HSP h3 hc
        go_wp2
        go_region
        go_wp2
        go_roundw
        case rel => exact ⟨k + 1, by omega, by go_num, (HT.out.set hlt _ (by rw [HX.out]; rfl)).drew⟩
        case measure => simp [intOf]; omega
    · obtain rfl : k = 256 := by omega
      obtain ⟨⟨cs, hs, hc, h1⟩, h0, hz, hb⟩ := hT
      obtain rfl := tab_ext cs hs hc
      have hin : (Tryd.prog.info? 124).map (·.size) = some tabA.size := by rw [tab_size]; exact info256
      clear hc hs
      go_wp2_with (first | (refine wpList_load_row rfl 124 (.tmp 1) rfl (w.heap.size + 1) rfl 124 tabA (0, 0) _ h1 Tryd.underlying124 rfl hin ?_) | (refine wpList_store_rowTo rfl 124 (.tmp 0) (.tmp 31) rfl rfl w.heap.size tabA rfl rfl 124 zero256 h0 hin (by rw [tab_size, zero_size]) tab_cells ?_))
      refine bodyPost_ret (v := .agg tabA) (results_cell_row (ty := 124) rfl _ _ w.heap.size 124 tabA (0, 0) _ rfl (setRow_heap _ _ _ _ _ _ h0) Tryd.underlying124 rfl hin) rfl ⟨rfl, below_setRow hb (Nat.le_refl _) _⟩
end Go.Proofs.YtocmfdahnekboaaDoor

/- The contract of sum.extend: all parts, byte by byte. -/
namespace Go.Proofs.YtocmfdahnekboaaDoor
open Go.RowKit SumM

theorem upd_walk {r b x : Nat} (hr : r < 4294967296) (hb : b < 256) (hx : (r % 256) ^^^ b = x) : bits .xor .u32 ((r : Int) / 256) ((turn8 x : Nat) : Int) = ((upd r b : Nat) : Int) := by
  have hx2 : x < 256 := by rw [← hx]; exact Nat.xor_lt_two_pow (n := 8) (by omega) hb
  rw [show (r : Int) / 256 = ((r / 256 : Nat) : Int) from by omega, u32_xor_nat _ _ (by omega) (turn8_lt (by omega))]
  unfold upd
  rw [hx, Nat.shiftRight_eq_div_pow]
theorem idx_walk {r b x : Nat} (hb : b < 256) (hx : (r % 256) ^^^ b = x) : bits .xor .u8 ((r : Int) % 256) (b : Int) = (x : Int) := by
  rw [show (r : Int) % 256 = ((r % 256 : Nat) : Int) from by omega, u8_xor_nat _ _ (by omega) hb, hx]

theorem not_walk {s : Nat} (hs : s < 4294967296) : bits .xor .u32 IntKind.u32.max (s : Int) = ((4294967295 - s : Nat) : Int) := by
  rw [show IntKind.u32.max = ((4294967295 : Nat) : Int) from by decide, u32_xor_nat _ _ (by decide) hs, ← not_xor hs]
theorem hst256 (w : World) : (storeCells ⟨w.heap.size, 0, none⟩ tabA.toList).run Tryd.prog (w.alloc (.cells zero256 124)) = .ok () (w.alloc (.cells tabA 124)) := by
  have h := run_storeCells_from (P := Tryd.prog) w.heap.size 124 tabA.toList 0 zero256 (w.alloc (.cells zero256 124)) (World.alloc_heap_new w _) (by have := tab_size; have := zero_size; simp; omega) (fun v hv => (Array.all_eq_true_iff_forall_mem.1 tab_cells) v (by simpa using hv))
  simp only [List.take_zero, List.nil_append, Array.toArray_toList] at h
  rw [World.setRow_alloc_new] at h
  exact h

set_option maxRecDepth 100000 in
set_option maxHeartbeats 2000000 in
theorem extend_any (s : Nat) (hs : s < 4294967296) (a : Option Addr) (n c : Nat) (ls : List (List Nat)) (hn : ls.length ≤ 1048576) (hls : ∀ l ∈ ls, Bytes l) (w : World) (hP : Parts w.heap.size w (.slice a n c) ls) :
    Calls Tryd.prog 74 #[.int .u32 s, .slice a n c] w fun e w' => e = .returned (.int .u32 (ext s ls.flatten)) ∧ Below w.heap.size w w' := by
  have hal := hal256
  have hin : (Tryd.prog.info? 124).map (·.size) = some tabA.size := by rw [tab_size]; exact info256
  have HT := Lib.hid turns_any
  have hst := hst256
  have hts := tab_size
  obtain rfl := hP.len
  go_enter Tryd.func74, Tryd.ntmps74
  go_wp2_with (go_at_call 83; refine (HT.out _).mono ?_; rintro e w1 ⟨rfl, hb1⟩)
  have hB : Below w.heap.size w (w1.alloc (.cells tabA 124)) := hb1.alloc hb1.size _
  have hR : (w1.alloc (.cells tabA 124)).heap[w1.heap.size]? = some (.cells tabA 124 (0, 0)) := World.alloc_heap_new w1 _
  obtain ⟨W, hW⟩ : ∃ W, w1.alloc (.cells tabA 124) = W := ⟨_, rfl⟩
  rw [hW] at hB hR ⊢
  have HP := Lib.hid (hP.below hB)
  have HC : Hid (∀ x, x < 256 → W.cell? ⟨w1.heap.size, x, none⟩ = some (.int .u32 (turn8 x : Nat))) := Lib.hid fun x hx => by rw [cell_of_row _ _ _ _ _ _ hR]; exact tab_get x hx
  have HN := Lib.hid (not_walk hs)
  have HL := Lib.hid hls
  clear hW hR hst hts hal hin hP hb1 HT hls
  obtain ⟨n, hln⟩ : ∃ n, ls.length = n := ⟨_, rfl⟩
  rw [hln] at hn ⊢
  have HLN := Lib.hid hln
  clear hln
  go_loop [6, 16] (fun v i => ∃ k : Nat, k ≤ n ∧ i = .int .i64 k ∧ v = .int .u32 (updAll (4294967295 - s) (ls.take k).flatten : Nat)) (fun _ i => n - (intOf i).toNat)
  case atStart => exact ⟨0, by omega, rfl, by rw [HN.out]; rfl⟩
  case round =>
    obtain ⟨k, hk, rfl, rfl⟩ := hrel
    have hlt0 : updAll (4294967295 - s) (ls.take k).flatten < 4294967296 := updAll_lt _ (by omega) (fun x hx => by
      obtain ⟨l, h1, h2⟩ := List.mem_flatten.1 hx
      exact (HL.out l (List.mem_of_mem_take h1)).2 x h2)
    by_cases hlt : k < n
    · obtain ⟨l, hl⟩ : ∃ l, ls[k]? = some l := ⟨ls[k]'(by rw [HLN.out]; exact hlt), List.getElem?_eq_getElem _⟩
      obtain ⟨b, off, rfl, hcell⟩ : ∃ b off, a = some ⟨b, off, none⟩ ∧ ∃ v, W.cell? ⟨b, off + k, none⟩ = some v ∧ Sl encY w.heap.size W v l := by
        obtain ⟨b, off, e, _, hc⟩ := HP.out.at_ hl
        exact ⟨b, off, e, hc⟩
      obtain ⟨v, hcv, hS⟩ := hcell
      have HF : Hid ((ls.take (k + 1)).flatten = (ls.take k).flatten ++ l) := Lib.hid (by rw [take_one _ _ _ hl]; simp)
      obtain ⟨hll, hlb⟩ := HL.out l (List.mem_of_getElem? hl)
      obtain ⟨r, hr⟩ : ∃ r, updAll (4294967295 - s) (ls.take k).flatten = r := ⟨_, rfl⟩
      have HR := Lib.hid hr
      rw [hr] at hlt0 ⊢
      clear hl hr
      have HLB := Lib.hid hlb
      clear hlb
      rcases hS with ⟨rfl, va, vc, rfl, _⟩ | ⟨b2, o2, c2, rfl, hb2, hcap2, hc2⟩
      · go_wp2
        go_loop [6, 22] (fun v i => i = .int .i64 0 ∧ v = .int .u32 r) (fun _ _ => 0)
        case atStart => exact ⟨rfl, rfl⟩
        case round =>
          obtain ⟨rfl, rfl⟩ := hrel
          go_wp2
          go_round
          case rel => exact ⟨k + 1, by omega, by go_num, by rw [HF.out, List.append_nil, HR.out]⟩
          case measure => simp [intOf]; omega
      · have HC2 := Lib.hid hc2
        clear hc2
        obtain ⟨m, hm⟩ : ∃ m, l.length = m := ⟨_, rfl⟩
        rw [hm] at hcv hll hcap2
        have HM := Lib.hid hm
        clear hm
        go_wp2
        go_loop [6, 22] (fun v i => ∃ j : Nat, j ≤ m ∧ i = .int .i64 j ∧ v = .int .u32 (updAll r (l.take j) : Nat)) (fun _ i => m - (intOf i).toNat)
        case atStart => exact ⟨0, by omega, rfl, rfl⟩
        case round =>
          obtain ⟨j, hj, rfl, rfl⟩ := hrel
          have hq0 : updAll r (l.take j) < 4294967296 := updAll_lt _ hlt0 (fun x hx => HLB.out x (List.mem_of_mem_take hx))
          by_cases hjm : j < m
          · obtain ⟨y, hy⟩ : ∃ y, l[j]? = some y := ⟨l[j]'(by rw [HM.out]; exact hjm), List.getElem?_eq_getElem _⟩
            have hcy : W.cell? ⟨b2, o2 + j, none⟩ = some (.int .u8 (y : Int)) := HC2.out j y hy
            have hyb := HLB.out y (List.mem_of_getElem? hy)
            have HTK : Hid (updAll r (l.take (j + 1)) = upd (updAll r (l.take j)) y) := Lib.hid (by rw [take_one _ _ _ hy, updAll_snoc])
            obtain ⟨q, hq⟩ : ∃ q, updAll r (l.take j) = q := ⟨_, rfl⟩
            rw [hq] at hq0 HTK ⊢
            obtain ⟨x, hx⟩ : ∃ x, (q % 256) ^^^ y = x := ⟨_, rfl⟩
            have hix := idx_walk hyb hx
            have hx2 : x < 256 := by rw [← hx]; exact Nat.xor_lt_two_pow (n := 8) (by omega) hyb
            have hcx := HC.out x hx2
            have HU := Lib.hid (upd_walk hq0 hyb hx)
            clear hq hx hy
            go_wp2
            go_round
            case rel => exact ⟨j + 1, by omega, by go_num, by rw [HTK.out, ← HU.out]⟩
            case measure => simp [intOf]; omega
          · obtain rfl : j = m := by omega
            go_wp2
            go_round
            case rel => exact ⟨k + 1, by omega, by go_num, by rw [HF.out, updAll_append, HR.out, List.take_of_length_le (by rw [HM.out]; omega)]⟩
            case measure => simp [intOf]; omega
    · obtain rfl : k = n := by omega
      have HE : Hid (bits .xor .u32 IntKind.u32.max ((updAll (4294967295 - s) (ls.take k).flatten : Nat) : Int) = ((ext s ls.flatten : Nat) : Int)) := Lib.hid (by rw [not_walk hlt0, List.take_of_length_le (by rw [HLN.out]; omega)]; rfl)
      obtain ⟨r, hr⟩ : ∃ r, updAll (4294967295 - s) (ls.take k).flatten = r := ⟨_, rfl⟩
      rw [hr] at HE hlt0 ⊢
      clear hr
      go_wp2
      go_ret
      exact ⟨ret_u32 HE.out, hB⟩
end Go.Proofs.YtocmfdahnekboaaDoor
