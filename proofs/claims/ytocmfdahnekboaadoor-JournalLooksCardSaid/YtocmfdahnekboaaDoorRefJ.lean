/- The document's own Join. -/
import Derived.Test.YtocmfdahnekboaaDoorRefY
namespace Go.Proofs.YtocmfdahnekboaaDoor
open Go.RowKit

theorem flat_len (ls : List (List Nat)) (k : Nat) (l : List Nat) (h : ls[k]? = some l) : (ls.take k).flatten.length + l.length ≤ ls.flatten.length := by
  have e : ls.flatten.length = (ls.take (k + 1)).flatten.length + (ls.drop (k + 1)).flatten.length := by rw [← List.length_append, ← List.flatten_append, List.take_append_drop]
  rw [take_one _ _ _ h, List.flatten_append, List.length_append] at e
  simp at e ⊢
  omega
end Go.Proofs.YtocmfdahnekboaaDoor