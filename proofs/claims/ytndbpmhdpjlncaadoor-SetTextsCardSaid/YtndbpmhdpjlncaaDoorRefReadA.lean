/- The document's reader, of whatever text. -/
import Derived.Test.YtndbpmhdpjlncaaDoorRefRead
namespace Go.Proofs.YtndbpmhdpjlncaaDoor
open Go.RowKit
theorem refRead_any (s : ByteArray) (hl : s.size ≤ 1048576) (w : World) :
    Calls Tryd.prog 26 #[.string s] w fun e w' => e = .returned (.tuple #[.int .u64 ((readS s.data.toList).getD 0 : Nat), .int .i64 (errN (readS s.data.toList))]) ∧ Below w.heap.size w w' := by
  by_cases h : ∃ m, s.data.toList = 123 :: (m ++ [125])
  · obtain ⟨m, hm⟩ := h
    exact refRead_in s m w hl hm
  · have := refRead_out s w hl h
    rw [readS_out _ h]
    exact this
end Go.Proofs.YtndbpmhdpjlncaaDoor
