/- Contracts of the document's own answers for layer 6: Weight, Write. -/
import Derived.Test.YtpllbojmonfeiaaFrameB
namespace Go.Proofs.Ytpllbojmonfeiaa
open Go.RowKit SumM
set_option linter.unusedVariables false

set_option maxHeartbeats 400000 in
theorem refWeight_any (n : Int) (w : World) (h : n ≤ 1099511627776) :
    Calls Try.prog 22 #[.int .i64 n] w fun e w' => e = .returned (.int .i64 (max n 0 + 7)) ∧ w = w' := by
  by_cases h0 : n < 0
  · go_enter Try.func22, Try.ntmps22
    go_wp2
    go_ret
    exact ⟨congrArg (fun z : Int => Ending.returned (.int .i64 z)) (by omega : (7 : Int) = max n 0 + 7), rfl⟩
  · have h1 : 0 ≤ n := by omega
    go_enter Try.func22, Try.ntmps22
    go_wp2
    go_ret
    exact ⟨congrArg (fun z : Int => Ending.returned (.int .i64 z)) (by omega : n + 7 = max n 0 + 7), rfl⟩

set_option maxRecDepth 100000 in
set_option maxHeartbeats 1000000 in
theorem refWrite_any (k : Int) (a : Option Addr) (n c : Nat) (l : List Nat) (hl : Bytes l) (w : World) (hS : Sl encY w.heap.size w (.slice a n c) l) :
    Calls Try.prog 52 #[.int .i64 k, .slice a n c] w fun e w' => ∃ v, e = .returned (.tuple #[v, .int .i64 (writeE k l)]) ∧ Sl encY w'.heap.size w' v (writeL k l) ∧ Below w.heap.size w w' := by
  obtain rfl := hS.len
  by_cases hk1 : k < 1
  · rw [show writeE k l = 1 from if_pos (.inl hk1), show writeL k l = [] from if_neg (by rw [show writeE k l = 1 from if_pos (.inl hk1)]; decide)]
    clear hl hS
    go_enter Try.func52, Try.ntmps52
    go_wp2
    go_ret2
    exact ⟨_, rfl, Sl.nil _ _ _, Below.refl _ _⟩
  · by_cases hk2 : 255 < k
    · rw [show writeE k l = 1 from if_pos (.inr hk2), show writeL k l = [] from if_neg (by rw [show writeE k l = 1 from if_pos (.inr hk2)]; decide)]
      clear hl hS
      go_enter Try.func52, Try.ntmps52
      go_wp2
      go_ret2
      exact ⟨_, rfl, Sl.nil _ _ _, Below.refl _ _⟩
    · have hkk : ¬ (k < 1 ∨ 255 < k) := by omega
      by_cases h4 : 4096 < l.length
      · have e2 : writeE k l = 2 := by unfold writeE; rw [if_neg hkk, if_pos h4]
        rw [e2, show writeL k l = [] from if_neg (by rw [e2]; decide)]
        have hl1 := hl.1
        clear hl hS e2 hkk
        obtain ⟨n, hn⟩ : ∃ n, l.length = n := ⟨_, rfl⟩
        rw [hn] at h4 hl1 ⊢
        clear hn
        go_enter Try.func52, Try.ntmps52
        go_wp2
        go_ret2
        exact ⟨_, rfl, Sl.nil _ _ _, Below.refl _ _⟩
      · have e2 : writeE k l = 0 := by unfold writeE; rw [if_neg hkk, if_neg h4]
        rw [e2, show writeL k l = frameL k.toNat l from if_pos e2]
        clear e2 hkk
        obtain ⟨t, rfl⟩ : ∃ t : Nat, k = (t : Int) := ⟨k.toNat, by omega⟩
        rw [Int.toNat_natCast]
        have HB : Hid (Bytes (headF t l ++ l)) := Lib.hid ⟨by have := hl.1; simp [headF]; omega, by
          intro x hx
          rcases List.mem_append.1 hx with h | h
          · simp [headF] at h; omega
          · exact hl.2 x h⟩
        have HSQ : Hid (∀ cs : Array Value, cs = ((headF t l).map encY).toArray → Parts ((w.alloc (.cells cs 5)).alloc (.cells #[.slice (some ⟨w.heap.size, 0, none⟩) 3 3, .slice a l.length c] 22)).heap.size ((w.alloc (.cells cs 5)).alloc (.cells #[.slice (some ⟨w.heap.size, 0, none⟩) 3 3, .slice a l.length c] 22)) (.slice (some ⟨w.heap.size + 1, 0, none⟩) 2 2) [headF t l, l]) := Lib.hid (by
          intro cs hcs
          have h1 := Sl.lit encY w 5 (headF t l) cs hcs
          have hb : Below w.heap.size w (w.alloc (.cells cs 5)) := (Below.refl _ _).alloc (Nat.le_refl _) _
          have := Parts.two (w.alloc (.cells cs 5)) (.slice (some ⟨w.heap.size, 0, none⟩) 3 3) (.slice a l.length c) (headF t l) l 22 h1 ((hS.below hb).mono hb.size)
          have hz : (w.alloc (.cells cs 5)).heap.size = w.heap.size + 1 := World.size_alloc _ _
          rw [hz] at this
          exact this)
        have HHC : Hid (#[Value.int .u8 ((l.length : Int) % 256), Value.int .u8 ((l.length : Int) / 256), Value.int .u8 (t : Int)] = ((headF t l).map encY).toArray) := Lib.hid (by simp [headF, encY])
        have HF : Hid (frameL t l = sealL (headF t l ++ l)) := Lib.hid rfl
        have HFL : Hid ([headF t l, l].flatten = headF t l ++ l) := Lib.hid (by simp)
        have HLL : Hid ((headF t l ++ l).length ≤ 1048576) := Lib.hid HB.out.1
        obtain ⟨hd, hhd⟩ : ∃ hd, headF t l = hd := ⟨_, rfl⟩
        rw [hhd] at HSQ HB HF HFL HHC HLL
        have HP := Lib.hid (HSQ.out _ HHC.out)
        obtain ⟨n, hn⟩ : ∃ n, l.length = n := ⟨_, rfl⟩
        rw [hn] at h4 HP ⊢
        clear hn hl hS hhd
        have c1 : (n : Int) / 256 ≤ 16 := by omega
        have c2 : 0 ≤ (n : Int) / 256 := by omega
        go_enter Try.func52, Try.ntmps52
        go_wp2_with (go_at_call 53; refine (joinY_any _ _ _ [hd, l] (by rw [HFL.out]; exact HLL.out) (by simp) _ HP.out).mono ?_; rintro e w2 ⟨v2, rfl, hown2, hb2⟩; rw [HFL.out] at hown2; have HO2 := Lib.hid hown2; clear hown2)
        have hb02 : Below w.heap.size w w2 := (((Below.refl _ _).alloc (Nat.le_refl _) _).alloc (by simp) _).trans (hb2.mono (by simp; omega))
        have hS2 := Sl.of_owns HO2.out
        obtain ⟨x, hx⟩ : ∃ x, hd ++ l = x := ⟨_, rfl⟩
        rw [hx] at hS2 HB HF
        obtain ⟨a2, c2', rfl⟩ := hS2.form
        have HSE := Lib.hid (refSeal_any _ _ _ x HB.out w2 hS2)
        obtain ⟨m, hm⟩ : ∃ m, x.length = m := ⟨_, rfl⟩
        rw [hm] at HSE
        rw [hm]
        clear hb2 HO2 hS2 hx hm
        refine HSE.out.mono ?_
        rintro e w3 ⟨v3, rfl, hown3, hb3⟩
        have hb03 := hb02.trans (hb3.mono hb02.size)
        have hS3 := Sl.of_owns hown3
        rw [← HF.out] at hS3
        have H3 := Lib.hid hS3
        clear hown3 hb3 hS3
        go_wp2
        go_ret2
        exact ⟨_, rfl, H3.out, hb03⟩
end Go.Proofs.Ytpllbojmonfeiaa
