/- The contract of sum.turns: the table. -/
import Derived.Test.YtpllbojmonfeiaaSumA
import Derived.RegionTactic
import Derived.BigRegion
import Derived.Laws.Rows
import Derived.Great.BuildSlice
namespace Go.Proofs.Ytpllbojmonfeiaa
open Go.RowKit SumM

def zero256 : Array Value := Array.replicate 256 (.int .u32 0)
theorem zero_size : zero256.size = 256 := by decide +kernel
def tabC (j : Nat) : Value := .int .u32 (turn8 j : Nat)
/-- The table as an array's value. -/
def tabA : Array Value := ((List.range 256).map tabC).toArray
theorem tab_size : tabA.size = 256 := by decide +kernel
theorem tab_get (j : Nat) (h : j < 256) : tabA[j]? = some (tabC j) := by simp [tabA, h]
theorem tab_ext (cs : Array Value) (hs : cs.size = 256) (h : ∀ j, j < 256 → cs[j]? = some (tabC j)) : cs = tabA := by
  apply Array.ext_getElem?
  intro j
  by_cases hj : j < 256
  · rw [h j hj, tab_get j hj]
  · rw [Array.getElem?_eq_none (by omega), Array.getElem?_eq_none (by rw [tab_size]; omega)]
theorem tab_cells : tabA.all (·.oneCell') = true := by decide +kernel

/-- The lowest bit of a number below 256. -/
def lowB (n : Nat) : Nat := n &&& (256 - n)
theorem low_walk : ∀ n : Nat, n < 256 → bits .and .i64 (n : Int) (-(n : Int)) = ((lowB n : Nat) : Int) := by decide +kernel
theorem low_le : ∀ n : Nat, n < 256 → lowB n ≤ n := by decide +kernel
theorem low_split : ∀ n : Nat, n < 256 → lowB n ≠ n → lowB n < n ∧ n - lowB n < n ∧ lowB n ^^^ (n - lowB n) = n := by decide +kernel
theorem turn8_lt {n : Nat} (h : n < 4294967296) : turn8 n < 4294967296 := turnN_lt h 8
theorem turn8_split {n b : Nat} (h : b ^^^ (n - b) = n) : turn8 b ^^^ turn8 (n - b) = turn8 n := by rw [← turn8_xor, h]

theorem hal256 (w : World) : (zeroValue 143).run Try.prog w = .ok (.agg zero256) w := by kernel_rfl

theorem info256 : (Try.prog.info? 143).map (·.size) = some 256 := by kernel_rfl
theorem below_setRow {B : Nat} {a w : World} (h : Below B a w) {g : Nat} (hg : B ≤ g) (cs : Array Value) : Below B a (w.setRow g cs) :=
  h.trans ⟨rfl, rfl, rfl, by simp, fun k hk => setRow_other w g k cs (by omega)⟩

/-- What the loop has laid. -/
def TabTo (w : World) (k : Nat) (wr : World) : Prop :=
  (∃ cs : Array Value, cs.size = 256 ∧ (∀ j, j < k → cs[j]? = some (tabC j)) ∧ wr.heap[w.heap.size + 1]? = some (.cells cs 143 (0, 0))) ∧ wr.heap[w.heap.size]? = some (.cells zero256 143 (0, 0)) ∧ wr.heap.size = w.heap.size + 2 ∧ Below w.heap.size w wr
theorem TabTo.set {w wr : World} {k : Nat} (h : TabTo w k wr) (hk : k < 256) (v : Value) (hv : v = tabC k) : TabTo w (k + 1) (wr.setCell ⟨w.heap.size + 1, k, none⟩ v) := by
  obtain ⟨⟨cs, hs, hc, h1⟩, h0, hz, hb⟩ := h
  refine ⟨⟨_, ?_, ?_, heap_setCell_same wr _ k cs _ v h1⟩, ?_, ?_, hb.setCell (by simp) _⟩
  · simp [hs]
  · intro j hj
    rw [Array.getElem?_setIfInBounds]
    by_cases e : k = j
    · subst e; rw [if_pos rfl, if_pos (by omega), hv]
    · rw [if_neg e, hc j (by omega)]
  · rw [Below.heap_setCell _ _ _ _ (by simp)]; exact h0
  · simp [World.setCell, hz]
theorem TabTo.drew {w wr : World} {k : Nat} (h : TabTo w k wr) : TabTo w k wr.drew := ⟨h.1, h.2.1, h.2.2.1, h.2.2.2.drew⟩
theorem TabTo.cell {w wr : World} {k : Nat} (h : TabTo w k wr) (j : Nat) (hj : j < k) : wr.cell? ⟨w.heap.size + 1, j, none⟩ = some (.int .u32 (turn8 j : Nat)) := by
  obtain ⟨⟨cs, hs, hc, h1⟩, _⟩ := h
  rw [cell_of_row _ _ _ _ _ _ h1]; exact hc j hj
theorem TabTo.any {w wr : World} {k : Nat} (h : TabTo w k wr) (j : Nat) (hj : j < 256) : ∃ v, wr.cell? ⟨w.heap.size + 1, j, none⟩ = some v := by
  obtain ⟨⟨cs, hs, hc, h1⟩, _⟩ := h
  rw [cell_of_row _ _ _ _ _ _ h1]; exact ⟨_, Array.getElem?_eq_getElem (by omega)⟩
theorem TabTo.frozen {w wr : World} {k : Nat} (h : TabTo w k wr) (j : Nat) : wr.frozen? ⟨w.heap.size + 1, j, none⟩ = false := by
  obtain ⟨⟨cs, hs, hc, h1⟩, _⟩ := h
  exact frozen_of_row _ _ _ _ _ h1
theorem TabTo.zero (w : World) : TabTo w 0 ((w.alloc (.cells zero256 143)).alloc (.cells zero256 143)) :=
  ⟨⟨zero256, zero_size, fun j hj => by omega, heap_alloc2_new _ _ _⟩, heap_alloc2_old _ _ _, by simp, ((Below.refl _ w).alloc (Nat.le_refl _) _).alloc (by simp) _⟩

set_option maxRecDepth 100000 in
set_option maxHeartbeats 1000000 in
theorem turns_any (w : World) :
    Calls Try.prog 90 #[] w fun e w' => e = .returned (.agg tabA) ∧ Below w.heap.size w w' := by
  have hal := hal256
  go_enter Try.func90, Try.ntmps90
  go_wp2
  go_loopw [4] (fun i wr => ∃ k : Nat, k ≤ 256 ∧ i = .int .i64 k ∧ TabTo w k wr) (fun i _ => 256 - (intOf i).toNat)
  case atStart => exact ⟨0, by omega, rfl, TabTo.zero w⟩
  case round =>
    obtain ⟨k, hk, rfl, hT⟩ := hrel
    by_cases hlt : k < 256
    · have HT := Lib.hid hT
      have hlw := low_walk k hlt
      have hle := low_le k hlt
      have HSP := Lib.hid (low_split k hlt)
      obtain ⟨v, hcv⟩ := hT.any k hlt
      have hfv := hT.frozen k
      obtain ⟨b, hb⟩ : ∃ b, lowB k = b := ⟨_, rfl⟩
      rw [hb] at hlw hle HSP
      clear hb hT
      by_cases hq : b = k
      · have hq2 : ((b : Int) != (k : Int)) = false := by rw [hq]; simp
        clear HSP
        go_wp2_with (go_at_call 94; refine (turn_any k (by omega) _).mono ?_; rintro e w' ⟨rfl, rfl⟩)
        go_roundw
        case rel => exact ⟨k + 1, by omega, by go_num, HT.out.set hlt _ rfl⟩
        case measure => simp [intOf]; omega
      · have hq2 : ((b : Int) != (k : Int)) = true := by rw [bne_iff_ne]; omega
        obtain ⟨h1, h2, h3⟩ := HSP.out hq
        have hc1 := HT.out.cell b h1
        have hc2 := HT.out.cell (k - b) h2
        have HX : Hid (bits .xor .u32 ((turn8 b : Nat) : Int) ((turn8 (k - b) : Nat) : Int) = ((turn8 k : Nat) : Int)) := Lib.hid (by rw [u32_xor_nat _ _ (turn8_lt (by omega)) (turn8_lt (by omega)), turn8_split h3])
        obtain ⟨c, hc⟩ : ∃ c : Nat, k - b = c := ⟨_, rfl⟩
        have hsub : ((k : Int) - (b : Int)) = (c : Int) := by omega
        have hwr : IntKind.i64.wrap ((k : Int) - (b : Int)) = (c : Int) := by rw [hsub]; exact IntWalk.i64_in _ (by omega)
        have hc0 : (0 : Int) ≤ (c : Int) := by omega
        have hcl : c < 256 := by omega
        rw [hc] at hc2 HX h2
        clear HSP h3 hc
        go_wp2
        go_region
        go_wp2
        go_roundw
        case rel => exact ⟨k + 1, by omega, by go_num, (HT.out.set hlt _ (by rw [HX.out]; rfl)).drew⟩
        case measure => simp [intOf]; omega
    · obtain rfl : k = 256 := by omega
      obtain ⟨⟨cs, hs, hc, h1⟩, h0, hz, hb⟩ := hT
      obtain rfl := tab_ext cs hs hc
      have hin : (Try.prog.info? 143).map (·.size) = some tabA.size := by rw [tab_size]; exact info256
      clear hc hs
      go_wp2_with (first | (refine wpList_load_row rfl 143 (.tmp 1) rfl (w.heap.size + 1) rfl 143 tabA (0, 0) _ h1 Try.underlying143 rfl hin ?_) | (refine wpList_store_rowTo rfl 143 (.tmp 0) (.tmp 31) rfl rfl w.heap.size tabA rfl rfl 143 zero256 h0 hin (by rw [tab_size, zero_size]) tab_cells ?_))
      refine bodyPost_ret (v := .agg tabA) (results_cell_row (ty := 143) rfl _ _ w.heap.size 143 tabA (0, 0) _ rfl (setRow_heap _ _ _ _ _ _ h0) Try.underlying143 rfl hin) rfl ⟨rfl, below_setRow hb (Nat.le_refl _) _⟩
end Go.Proofs.Ytpllbojmonfeiaa
