/- The document's own Uint, Int, Bytes. -/
import Derived.Test.YtocmfdahnekboaaDoorCodM
import Derived.Test.YtocmfdahnekboaaDoorSumD
import Derived.Test.YtocmfdahnekboaaDoorRefJ
namespace Go.Proofs.YtocmfdahnekboaaDoor
open Go.RowKit
set_option linter.unusedVariables false

theorem own_one (w3 : World) (x : Nat) : (w3.alloc (.cells #[Value.int .u8 (x : Int)] 5)).ownsRow w3.heap.size 5 1 (.slice (some ⟨w3.heap.size, 0, none⟩) 1 1) 1 ([x].map encY) :=
  ⟨rfl, .inr ⟨w3.heap.size, 1, _, rfl, Nat.le_refl _, World.alloc_heap_new w3 _, Nat.le_refl _, by decide, rfl, by simp [encY]⟩⟩

end Go.Proofs.YtocmfdahnekboaaDoor
namespace Go.Proofs.YtocmfdahnekboaaDoor
open Go.RowKit
set_option linter.unusedVariables false
/-- Numbers with a sign, one behind the other. -/
def uvs (xs : List Int) : List Nat := (xs.map fun m => uv (zig m)).flatten
def In64 (m : Int) : Prop := -9223372036854775808 ≤ m ∧ m ≤ 9223372036854775807
theorem uvs_snoc (xs : List Int) (m : Int) : uvs (xs ++ [m]) = uvs xs ++ uv (zig m) := by simp [uvs]
theorem uvs_len : ∀ (xs : List Int), (∀ m ∈ xs, In64 m) → (uvs xs).length ≤ 10 * xs.length
  | [], _ => by simp [uvs]
  | m :: xs, h => by
    have h1 := uvs_len xs (fun x hx => h x (List.mem_cons_of_mem _ hx))
    have h2 := uv_len10 (zig_lt (h m (List.mem_cons_self ..)).1 (h m (List.mem_cons_self ..)).2)
    have e : uvs (m :: xs) = uv (zig m) ++ uvs xs := by simp [uvs]
    rw [e, List.length_append, List.length_cons]; omega
def listL (xs : List Int) : List Nat := uv xs.length ++ uvs xs
def encN (m : Int) : Value := .int .i64 m

end Go.Proofs.YtocmfdahnekboaaDoor