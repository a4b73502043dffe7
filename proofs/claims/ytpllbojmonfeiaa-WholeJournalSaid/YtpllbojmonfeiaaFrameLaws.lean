/- Small facts that the laws of layer 6 share. -/
import Derived.Test.YtpllbojmonfeiaaFrameAl
import Derived.Test.YtpllbojmonfeiaaRefF
import Derived.Test.YtpllbojmonfeiaaSumRef
import Derived.Test.YtpllbojmonfeiaaOpenP
import Derived.Test.YtpllbojmonfeiaaMasks
namespace Go.Proofs.Ytpllbojmonfeiaa
open Go.RowKit SumM
set_option linter.unusedVariables false

theorem writeL_len (k : Int) (l : List Nat) : (writeL k l).length ≤ l.length + 7 := by
  unfold writeL
  by_cases h : writeE k l = 0
  · rw [if_pos h, frame_len]; exact Nat.le_refl _
  · rw [if_neg h]; simp
theorem writeE_zero {k : Int} {l : List Nat} (h : writeE k l = 0) : 1 ≤ k ∧ k ≤ 255 ∧ l.length ≤ 4096 := by
  unfold writeE at h
  split at h
  · cases h
  · split at h
    · cases h
    · rename_i h1 h2
      exact ⟨by omega, by omega, by omega⟩
theorem writeL_zero {k : Int} {l : List Nat} (h : writeE k l = 0) : writeL k l = frameL k.toNat l := if_pos h
theorem writeL_bad {k : Int} {l : List Nat} (h : writeE k l ≠ 0) : writeL k l = [] := if_neg h
end Go.Proofs.Ytpllbojmonfeiaa
