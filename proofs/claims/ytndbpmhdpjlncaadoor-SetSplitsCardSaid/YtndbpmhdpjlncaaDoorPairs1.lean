/- What set.Pairs hands back, gone over. -/
import Derived.Test.YtndbpmhdpjlncaaDoorPairs
namespace Go.Proofs.YtndbpmhdpjlncaaDoor
open Go.RowKit Go.Shelf

attribute [local go_sem] Oper.semAt_some

theorem fullN_lt (n : Int) : fullN n < 18446744073709551616 := by
  unfold fullN
  have : 2 ^ (min n.toNat 64) ≤ 2 ^ 64 := Nat.pow_le_pow_right (by decide) (by omega)
  have e : (2 : Nat) ^ 64 = 18446744073709551616 := rfl
  omega
theorem Sl.slice {α : Type} {enc : α → Value} {n : Nat} {W : World} {sv : Value} {xs : List α} (h : Sl enc n W sv xs) : ∃ a c, sv = .slice a xs.length c := by
  rcases h with ⟨rfl, rfl⟩ | ⟨b, off, cap, rfl, _⟩
  · exact ⟨_, _, rfl⟩
  · exact ⟨_, _, rfl⟩
theorem full_item {s N x : Nat} (h : x ∈ items (s &&& fullN N)) : x < N := by
  obtain ⟨h1, h2⟩ := items_mem.1 h
  rw [Nat.testBit_and] at h2
  simp only [Bool.and_eq_true] at h2
  have h3 := h2.2
  unfold fullN at h3
  rw [Int.toNat_natCast, Nat.testBit_two_pow_sub_one] at h3
  simp at h3
  omega
theorem grownBy_drew (W : World) : W.grownBy W.drew none := ⟨rfl, rfl, rfl, Nat.le_refl _, fun _ _ _ => rfl⟩
theorem yieldAny {F : Fence} (hd : F.depth = none) {m : Nat} (m' l2 : Nat) {P : Program} {l : Nat} {args : Array Value} {W : World} {R : Ending → World → Prop} (h : YieldAt F m P l args W R) : YieldAt (F.inRound l2) m' P l args W R := by
  obtain ⟨fn, tmps, assign, body, hy, hF, hr⟩ := h
  exact ⟨fn, tmps, assign, body, hy, hF, fun c cs _ => hr c cs (fun d hd' => by rw [hd] at hd'; cases hd')⟩
/-- An item and what stands there. -/
def at_ (zs : List Int) (i : Nat) : Nat × Int := (i, zs[i]?.getD 0)
/-- The items of s that have a place in zs, each with what stands there. -/
def pl (s : Nat) (zs : List Int) : List (Nat × Int) := (items (s &&& fullN zs.length)).map (at_ zs)
theorem pl_eq (s : Nat) (zs : List Int) : pl s zs = (items (s &&& fullN zs.length)).map (at_ zs) := rfl

end Go.Proofs.YtndbpmhdpjlncaaDoor
