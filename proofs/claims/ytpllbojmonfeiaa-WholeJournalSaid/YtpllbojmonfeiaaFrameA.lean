/- Contracts of package frame: Weight, Write. -/
import Derived.Test.YtpllbojmonfeiaaFrameM
import Derived.RegionTactic
import Derived.Laws.BitsLemmas
namespace Go.Proofs.Ytpllbojmonfeiaa
open Go.RowKit SumM
set_option linter.unusedVariables false

set_option maxHeartbeats 400000 in
theorem weight_any (n : Int) (w : World) (h : n ≤ 1099511627776) :
    Calls Try.prog 45 #[.int .i64 n] w fun e w' => e = .returned (.int .i64 (max n 0 + 7)) ∧ w = w' := by
  have h1 : max n 0 ≤ 1099511627776 := by omega
  have h2 : 0 ≤ max n 0 := by omega
  obtain ⟨m, hm⟩ : ∃ m, max n 0 = m := ⟨_, rfl⟩
  rw [hm] at h1 h2
  go_enter Try.func45, Try.ntmps45
  go_wp2
  go_ret
  exact ⟨by rw [hm]; exact congrArg (fun z : Int => Ending.returned (.int .i64 z)) (by omega : 3 + m + 4 = m + 7), rfl⟩

theorem and_of {b : Bool} (h : b = true) : b = true := h
set_option maxRecDepth 100000 in
set_option maxHeartbeats 1000000 in
theorem write_any (k : Int) (a : Option Addr) (n c : Nat) (l : List Nat) (hl : Bytes l) (w : World) (hS : Sl encY w.heap.size w (.slice a n c) l) :
    Calls Try.prog 43 #[.agg #[.int .i64 k, .slice a n c]] w fun e w' => ∃ v, e = .returned (.tuple #[v, .int .i64 (writeE k l)]) ∧ Sl encY w'.heap.size w' v (writeL k l) ∧ Below w.heap.size w w' := by
  obtain ⟨i0, hi, hz0, hz1, hz2⟩ := info_parts info8
  obtain rfl := hS.len
  by_cases hk1 : k < 1
  · rw [show writeE k l = 1 from if_pos (.inl hk1), show writeL k l = [] from if_neg (by rw [show writeE k l = 1 from if_pos (.inl hk1)]; decide)]
    clear hl hS
    go_enter Try.func43, Try.ntmps43
    go_wp2
    go_ret2
    exact ⟨_, rfl, Sl.nil _ _ _, (Below.refl _ _).alloc (Nat.le_refl _) _⟩
  · by_cases hk2 : 255 < k
    · rw [show writeE k l = 1 from if_pos (.inr hk2), show writeL k l = [] from if_neg (by rw [show writeE k l = 1 from if_pos (.inr hk2)]; decide)]
      clear hl hS
      go_enter Try.func43, Try.ntmps43
      go_wp2
      go_ret2
      exact ⟨_, rfl, Sl.nil _ _ _, (Below.refl _ _).alloc (Nat.le_refl _) _⟩
    · have hkk : ¬ (k < 1 ∨ 255 < k) := by omega
      by_cases h4 : 4096 < l.length
      · have e2 : writeE k l = 2 := by unfold writeE; rw [if_neg hkk, if_pos h4]
        rw [e2, show writeL k l = [] from if_neg (by rw [e2]; decide)]
        have hl1 := hl.1
        clear hl hS e2 hkk
        obtain ⟨n, hn⟩ : ∃ n, l.length = n := ⟨_, rfl⟩
        rw [hn] at h4 hl1 ⊢
        clear hn
        go_enter Try.func43, Try.ntmps43
        go_wp2
        go_ret2
        exact ⟨_, rfl, Sl.nil _ _ _, (Below.refl _ _).alloc (Nat.le_refl _) _⟩
      · have e2 : writeE k l = 0 := by unfold writeE; rw [if_neg hkk, if_neg h4]
        rw [e2, show writeL k l = frameL k.toNat l from if_pos e2]
        clear e2 hkk
        obtain ⟨t, rfl⟩ : ∃ t : Nat, k = (t : Int) := ⟨k.toNat, by omega⟩
        rw [Int.toNat_natCast]
        have HB : Hid (Bytes (headF t l ++ l)) := Lib.hid ⟨by have := hl.1; simp [headF]; omega, by
          intro x hx
          rcases List.mem_append.1 hx with h | h
          · simp [headF] at h; omega
          · exact hl.2 x h⟩
        have HS := Lib.hid hS
        have HL := Lib.hid hl
        have HQ : Hid (∀ (w3 : World), (w3.alloc (.cells #[Value.int .u8 ((l.length : Int) % 256), Value.int .u8 ((l.length : Int) / 256), Value.int .u8 (t : Int)] 5)).ownsRow w3.heap.size 5 1 (.slice (some ⟨w3.heap.size, 0, none⟩) 3 3) 3 ((headF t l).map encY)) :=
          Lib.hid fun w3 => ⟨rfl, .inr ⟨w3.heap.size, 3, _, rfl, Nat.le_refl _, World.alloc_heap_new w3 _, Nat.le_refl _, by decide, rfl, by simp [headF, encY]⟩⟩
        have HF : Hid (frameL t l = sealL (headF t l ++ l)) := Lib.hid rfl
        obtain ⟨hd, hhd⟩ : ∃ hd, headF t l = hd := ⟨_, rfl⟩
        have HHL : Hid (hd.length = 3) := Lib.hid (by rw [← hhd]; rfl)
        rw [hhd] at HQ HB HF
        obtain ⟨n, hn⟩ : ∃ n, l.length = n := ⟨_, rfl⟩
        have HN := Lib.hid hn
        rw [hn] at h4 HS HQ ⊢
        clear hn hl hS hhd
        have c1 : (n : Int) / 256 ≤ 16 := by omega
        have c2 : 0 ≤ (n : Int) / 256 := by omega
        go_enter Try.func43, Try.ntmps43
        have HW : Below w.heap.size w (w.alloc (.cells #[.int .i64 t, .slice a n c] 82)) := (Below.refl _ _).alloc (Nat.le_refl _) _
        have HQ1 := HQ.out (w.alloc (.cells #[.int .i64 t, .slice a n c] 82))
        rw [World.size_alloc] at HQ1
        have HW2 := HW.alloc HW.size (.cells #[Value.int .u8 ((n : Int) % 256), Value.int .u8 ((n : Int) / 256), Value.int .u8 (t : Int)] 5)
        have HS2 := Lib.hid (HS.out.below HW2)
        have HQ2 := Lib.hid HQ1
        have HX := Lib.hid HW2
        clear HQ1 HW HW2
        go_wp2_with (at_builtin; refine wpList_append_bytes _ rfl (.tmp 28) (.tmp 30) rfl (w.heap.size + 1) _ 3 (hd.map encY) rfl HQ2.out w.heap.size _ l rfl HS2.out (by rw [HN.out]; omega) (by simp) ?_)
        intro v2 w2 hown2 hg2
        have hb2 : Below w.heap.size w w2 := HX.out.grown hg2 HX.out.size (fun j hj => by simp [Value.ownBlock] at hj; omega)
        have hml : 3 + l.length = (hd ++ l).length := by rw [List.length_append, HHL.out]
        rw [← List.map_append, hml] at hown2
        obtain ⟨x, hx⟩ : ∃ x, hd ++ l = x := ⟨_, rfl⟩
        rw [hx] at hown2 HB HF
        have hS2 := Sl.of_owns hown2
        obtain ⟨a2, c2', rfl⟩ := hS2.form
        have HSE := Lib.hid (seal_any _ _ _ x HB.out w2 hS2)
        obtain ⟨m, hm⟩ : ∃ m, x.length = m := ⟨_, rfl⟩
        rw [hm] at HSE
        rw [hm]
        clear hown2 hg2 hS2 hml hx hm
        go_wp2_with (go_at_call 61; refine HSE.out.mono ?_; rintro e w3 ⟨v3, rfl, hown3, hb3⟩)
        have hb03 := hb2.trans (hb3.mono hb2.size)
        have hS3 := Sl.of_owns hown3
        rw [← HF.out] at hS3
        have H3 := Lib.hid hS3
        clear hown3 hb3 hS3
        go_wp2
        go_ret2
        exact ⟨_, rfl, H3.out, hb03⟩
end Go.Proofs.Ytpllbojmonfeiaa
