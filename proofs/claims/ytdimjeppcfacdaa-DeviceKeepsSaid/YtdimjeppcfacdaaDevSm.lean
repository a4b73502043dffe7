/- Few steps, of few bytes. -/
import Derived.Test.YtdimjeppcfacdaaOpenOp
import Derived.Test.YtdimjeppcfacdaaDevA
namespace Go.Proofs.Ytdimjeppcfacdaa
open Go.RowKit
set_option linter.unusedVariables false

/-- Where it says yes, they are few, of few bytes. -/
def SmallTo (xs : List OpS) (w : World) (e : Ending) (w' : World) : Prop := ∃ b, e = .returned (.bool b) ∧ (b = true → xs.length ≤ 40 ∧ ∀ x ∈ xs, x.data.length ≤ 3000) ∧ Below w.heap.size w w'
set_option maxRecDepth 100000 in
set_option maxHeartbeats 2000000 in
theorem dsmall_any (a : Option Addr) (c : Nat) (xs : List OpS) (hm : xs.length ≤ Go.maxLen) (w : World) (h : Ops w.heap.size w (.slice a xs.length c) xs) :
    Calls Try.prog 18 #[.slice a xs.length c] w (SmallTo xs w) := by
  have HS := Lib.hid h
  obtain ⟨n, hn⟩ : ∃ n, xs.length = n := ⟨_, rfl⟩
  have HN := Lib.hid hn
  rw [hn] at HS hm ⊢
  have hmx : n ≤ 9223372036854775807 := by unfold Go.maxLen at hm; omega
  clear hn h hm
  go_enter Try.func18, Try.ntmps18
  go_wp2
  go_loopw [3, 8] (fun s i wr => ∃ k t : Nat, k ≤ n ∧ t ≤ 3000 ∧ i = .int .i64 k ∧ s = .int .i64 t ∧ (∀ j x, j < k → xs[j]? = some x → x.data.length ≤ 3000) ∧ Below w.heap.size w wr) (fun _ i _ => n - (intOf i).toNat)
  case atStart => exact ⟨0, 0, Nat.zero_le _, by omega, rfl, rfl, fun j x hj => by omega, Below.refl _ _⟩
  case round =>
    obtain ⟨k, t, hk, ht, rfl, rfl, hpre, hb⟩ := hrel
    by_cases hlt : k < n
    · obtain ⟨x, hx⟩ : ∃ x, xs[k]? = some x := ⟨xs[k]'(by rw [HN.out]; exact hlt), List.getElem?_eq_getElem _⟩
      obtain ⟨b, off, va, vc, rfl, hbw, e0, e1, e2, e3, eS⟩ := HS.out.at_ hx
      have c0 := (hb.cell (p := ⟨b, off + k * 4, none⟩) hbw).trans e0
      have c1 := (hb.cell (p := ⟨b, off + k * 4 + 1, none⟩) hbw).trans e1
      have c2 := (hb.cell (p := ⟨b, off + k * 4 + 2, none⟩) hbw).trans e2
      have c3 := (hb.cell (p := ⟨b, off + k * 4 + 3, none⟩) hbw).trans e3
      obtain ⟨q, hq⟩ : ∃ q, x.data.length = q := ⟨_, rfl⟩
      rw [hq] at c3
      have HX := Lib.hid hx
      have HQ := Lib.hid hq
      have HP := Lib.hid hpre
      have HB := Lib.hid hb
      clear hx hq hpre e0 e1 e2 e3 eS
      have hki : (k : Int) < n := by omega
      have hk0 : (0 : Int) ≤ k := by omega
      by_cases hbig : (3000 : Int) - (t : Int) < (q : Int)
      · go_wp2
        go_ret
        exact ⟨false, rfl, (fun h => by cases h), HB.out.alloc HB.out.size _⟩
      · go_wp2
        refine ⟨⟨k + 1, t + q, by omega, by omega, by go_num, by go_num, fun j y hj hy => ?_, HB.out.alloc HB.out.size _⟩, by simp [intOf]; omega⟩
        by_cases hjk : j = k
        · subst hjk; rw [HX.out] at hy; cases hy; rw [HQ.out]; omega
        · exact HP.out j y (by omega) hy
    · obtain rfl : k = n := by omega
      have hki : ¬ (k : Int) < k := by omega
      go_wp2
      go_ret
      refine ⟨_, rfl, (fun h => ?_), hb⟩
      have h40 := of_decide_eq_true h
      refine ⟨by rw [HN.out]; omega, fun x hx => ?_⟩
      obtain ⟨j, hj⟩ := List.getElem?_of_mem hx
      exact hpre j x (by rw [← HN.out]; exact (List.getElem?_eq_some_iff.1 hj).1) hj
end Go.Proofs.Ytdimjeppcfacdaa
