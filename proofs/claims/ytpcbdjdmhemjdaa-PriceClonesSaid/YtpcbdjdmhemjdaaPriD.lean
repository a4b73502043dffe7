/- Contracts of what price's raise calls: whether an entry goes, and the first that does. -/
import Derived.Test.YtpcbdjdmhemjdaaPriB
namespace Go.Proofs.Ytpcbdjdmhemjdaa
open Go.RowKit
set_option linter.unusedVariables false
attribute [local go_sem] Oper.semAt_some

/-- Whether an entry goes when e comes. -/
def goesB (e x : Ent) : Bool := withinB e.1 x.1 && decide (x.2 ≤ e.2)
set_option maxRecDepth 100000 in
set_option maxHeartbeats 4000000 in
theorem raise1_any (Be : Nat) (e x : Ent) (w : World) (he : okS e.1) (hx : okS x.1) (k0 : w.cell? ⟨Be, 0, none⟩ = some (.int .u64 (e.1 : Nat))) (k1 : w.cell? ⟨Be, 1, none⟩ = some (.int .i64 e.2)) (hBe : Be < w.heap.size) :
    Calls Try.prog 46 #[.agg #[.int .u64 (x.1 : Nat), .int .i64 x.2], .pointer (some ⟨Be, 0, none⟩)] w fun o w' => o = .returned (.bool (goesB e x)) ∧ Below w.heap.size w w' := by
  obtain ⟨k, v⟩ := e
  obtain ⟨k', v'⟩ := x
  simp only at he hx k0 k1 ⊢
  have hg : goesB (k, v) (k', v') = (withinB k k' && decide (v' ≤ v)) := rfl
  rw [hg]
  obtain ⟨w1, hw1⟩ : ∃ w1, w.alloc (.cells #[.int .u64 (k' : Nat), .int .i64 v'] 41) = w1 := ⟨_, rfl⟩
  have hb01 : Below w.heap.size w w1 := by rw [← hw1]; exact (Below.refl _ _).alloc (Nat.le_refl _) _
  have hnew : w1.heap[w.heap.size]? = some (.cells #[.int .u64 (k' : Nat), .int .i64 v'] 41) := by rw [← hw1]; exact World.alloc_heap_new w _
  have c0 : w1.cell? ⟨w.heap.size, 0, none⟩ = some (.int .u64 (k' : Nat)) := cell_of_row w1 _ 0 _ _ _ hnew
  have c1 : w1.cell? ⟨w.heap.size, 1, none⟩ = some (.int .i64 v') := cell_of_row w1 _ 1 _ _ _ hnew
  have j0 := (hb01.cell (p := ⟨Be, 0, none⟩) hBe).trans k0
  have j1 := (hb01.cell (p := ⟨Be, 1, none⟩) hBe).trans k1
  have HW := Lib.hid hw1
  have HB := Lib.hid hb01
  have HWI := Lib.hid (fun W => within_any k k' W he hx)
  clear hw1 hb01 hnew k0 k1 hg
  go_enter Try.func46, Try.ntmps46
  go_upto_region 1 with fail
  rw [HW.out]
  cases hwi : withinB k k' with
  | false =>
    rw [hwi] at HWI
    go_wp2_with (go_at_call 44; refine (HWI.out _).mono ?_; rintro e w' ⟨rfl, hx⟩; obtain rfl := hx)
    go_ret
    exact ⟨by simp [hwi], HB.out⟩
  | true =>
    rw [hwi] at HWI
    go_wp2_with (go_at_call 44; refine (HWI.out _).mono ?_; rintro e w' ⟨rfl, hx⟩; obtain rfl := hx)
    go_ret
    exact ⟨by simp [hwi], HB.out⟩
/-- The first entry that goes: where it stands, or -1. -/
def FirstGo (e : Ent) (es : List Ent) (r : Int) : Prop := (r = -1 ∧ ∀ x ∈ es, goesB e x = false) ∨ ∃ (j : Nat) (x : Ent), r = j ∧ es[j]? = some x ∧ goesB e x = true ∧ ∀ (t : Nat) (y : Ent), t < j → es[t]? = some y → goesB e y = false
set_option maxRecDepth 100000 in
set_option maxHeartbeats 4000000 in
theorem index_any (a : Option Addr) (n c Be : Nat) (e : Ent) (es : List Ent) (w : World) (he : okS e.1) (hok : ∀ x ∈ es, okS x.1) (hlen : es.length ≤ 1048576) (k0 : w.cell? ⟨Be, 0, none⟩ = some (.int .u64 (e.1 : Nat))) (k1 : w.cell? ⟨Be, 1, none⟩ = some (.int .i64 e.2)) (hBe : Be < w.heap.size) (hz : EnsP w.heap.size w (.slice a n c) es) :
    Calls Try.prog 53 #[.slice a n c, .func (.func 46) #[] #[.pointer (some ⟨Be, 0, none⟩)]] w fun o w' => ∃ r : Int, o = .returned (.int .i64 r) ∧ FirstGo e es r ∧ Below w.heap.size w w' := by
  have hn := hz.len
  have HZ := Lib.hid hz
  have HN := Lib.hid hn.symm
  have HOK := Lib.hid hok
  have HR := Lib.hid (fun (x : Ent) (W : World) (hx : okS x.1) (hb : Below w.heap.size w W) => raise1_any Be e x W he hx ((hb.cell (p := ⟨Be, 0, none⟩) hBe).trans k0) ((hb.cell (p := ⟨Be, 1, none⟩) hBe).trans k1) (Nat.lt_of_lt_of_le hBe hb.size))
  have hn0 : n ≤ 1048576 := by omega
  clear hz hn hok hlen k0 k1
  go_enter Try.func53, Try.ntmps53
  go_wp2
  go_loopw [8] (fun i wr => ∃ m : Nat, i = .int .i64 m ∧ m ≤ n ∧ (∀ (t : Nat) (y : Ent), t < m → es[t]? = some y → goesB e y = false) ∧ Below w.heap.size w wr) (fun i _ => n - (intOf i).toNat)
  case atStart => exact ⟨0, rfl, Nat.zero_le _, fun t y h => by omega, Below.refl _ _⟩
  case round =>
    obtain ⟨m, rfl, hm, hno, hB⟩ := hrel
    obtain ⟨wo, hwo⟩ : ∃ x, x = wr := ⟨wr, rfl⟩
    subst hwo
    have HNO := Lib.hid hno
    by_cases hlt : m < n
    · obtain ⟨⟨k, u⟩, hx⟩ : ∃ x, es[m]? = some x := ⟨_, List.getElem?_eq_getElem (by rw [HN.out]; exact hlt)⟩
      obtain ⟨b, off, rfl, hbl, f0, f1⟩ := HZ.out.at_ hx
      have hkok := HOK.out _ (List.mem_of_getElem? hx)
      have d0 := (hB.cell (p := ⟨b, off + m * 2, none⟩) hbl).trans f0
      have d1 := (hB.cell (p := ⟨b, off + m * 2 + 1, none⟩) hbl).trans f1
      simp only at d0 d1 hkok
      have g1 : (0 : Int) ≤ m := by omega
      have g2 : (m : Int) < n := by omega
      have HC := Lib.hid (HR.out (k, u) wo hkok hB)
      have HBB := Lib.hid hB
      have HX := Lib.hid hx
      clear hB hno hx f0 f1
      cases hgo : goesB e (k, u) with
      | true =>
        rw [hgo] at HC
        go_wp2_with fail
        refine HC.out.mono ?_
        rintro o w2 ⟨rfl, hb2⟩
        have HB2 := Lib.hid (HBB.out.trans (hb2.mono HBB.out.size))
        clear hb2
        go_wp2_with fail
        go_ret
        exact ⟨m, rfl, .inr ⟨m, (k, u), rfl, HX.out, hgo, HNO.out⟩, HB2.out⟩
      | false =>
        rw [hgo] at HC
        go_wp2_with fail
        refine HC.out.mono ?_
        rintro o w2 ⟨rfl, hb2⟩
        have HB2 := Lib.hid (HBB.out.trans (hb2.mono HBB.out.size))
        clear hb2
        go_wp2_with fail
        go_roundw
        case rel => exact ⟨m + 1, by go_num, by omega, fun t y ht hy => by
          rcases Nat.lt_or_ge t m with h' | h'
          · exact HNO.out t y h' hy
          · obtain rfl : t = m := by omega
            rw [HX.out] at hy; cases hy; exact hgo, HB2.out⟩
        case measure => simp [intOf]; omega
    · obtain rfl : m = n := by omega
      have HBB := Lib.hid hB
      clear hB hno
      go_wp2_with fail
      go_ret
      exact ⟨-1, rfl, .inl ⟨rfl, fun x hx => by
        obtain ⟨t, ht⟩ := List.getElem?_of_mem hx
        exact HNO.out t x (by have := (List.getElem?_eq_some_iff.1 ht).1; have := HN.out; omega) ht⟩, HBB.out⟩
end Go.Proofs.Ytpcbdjdmhemjdaa
