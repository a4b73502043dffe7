/- What was written is read as it. -/
import Derived.Test.YtbdigpfeedcgaaaCodO
import Derived.Test.YtbdigpfeedcgaaaSameN
namespace Go.Proofs.Ytbdigpfeedcgaaa
open Go.RowKit
set_option linter.unusedVariables false

theorem bytes_app {a b : List Nat} (h : ∀ x ∈ a, x < 256) (h2 : ∀ x ∈ b, x < 256) : ∀ x ∈ a ++ b, x < 256 := fun x hx => by
  rcases List.mem_append.1 hx with h3 | h3
  · exact h x h3
  · exact h2 x h3
theorem uvs_byte (xs : List Int) : ∀ x ∈ uvs xs, x < 256 := fun x hx => by
  unfold uvs at hx
  obtain ⟨l, hl, hx⟩ := List.mem_flatten.1 hx
  obtain ⟨m, _, rfl⟩ := List.mem_map.1 hl
  exact uv_byte _ x hx
theorem listL_byte (xs : List Int) : ∀ x ∈ listL xs, x < 256 := bytes_app (uv_byte _) (uvs_byte _)
theorem Bytes.right {a b : List Nat} (h : Bytes (a ++ b)) : Bytes b := ⟨by have := h.1; rw [List.length_append] at this; omega, fun x hx => h.2 x (List.mem_append.2 (.inr hx))⟩

theorem inInt_ok (n0 b : Nat) (m : Int) (hm : In64 m) (R : List Nat) (hl : Bytes (uv (zig m) ++ R)) (w : World) (h : InB n0 w b (uv (zig m) ++ R) 0) :
    Calls Try.prog 42 #[.pointer (some ⟨b, 0, none⟩)] w fun e2 w' => e2 = .returned (.int .i64 m) ∧ InB n0 w' b R 0 ∧ But [b] w w' := by
  have hz := zig_lt hm.1 hm.2
  have hu := inInt_any n0 b 0 _ hl w h
  rw [whole_uv hz, uintR_uv hz] at hu
  refine hu.mono ?_
  rintro e w' ⟨rfl, hi, hb⟩
  exact ⟨by rw [show zag (zig m, (uv (zig m)).length, 0).1 = zag (zig m) from rfl, zag_zig], hi, hb⟩
theorem inUint_ok (n0 b N : Nat) (hN : N < 18446744073709551616) (R : List Nat) (hl : Bytes (uv N ++ R)) (w : World) (h : InB n0 w b (uv N ++ R) 0) :
    Calls Try.prog 47 #[.pointer (some ⟨b, 0, none⟩)] w fun e2 w' => e2 = .returned (.int .u64 (N : Nat)) ∧ InB n0 w' b R 0 ∧ But [b] w w' := by
  have hu := inUint_any n0 b 0 _ hl w h
  rw [whole_uv hN, uintR_uv hN] at hu
  exact hu
theorem inTake_ok (n0 b : Nat) (xs : List Int) (hx : ∀ m ∈ xs, In64 m) (hn : xs.length ≤ 50) (R : List Nat) (hl : Bytes (listL xs ++ R)) (w : World) (h : InB n0 w b (listL xs ++ R) 0) :
    Calls Try.prog 44 #[.pointer (some ⟨b, 0, none⟩), .int .i64 50, .func (.func 45) #[] #[]] w fun e2 w' => ∃ a c, e2 = .returned (.slice a xs.length c) ∧ Sl encN w'.heap.size w' (.slice a xs.length c) xs ∧ InB w.heap.size w' b R 0 ∧ But [b] w w' := by
  have ht := takeAll_any n0 b 0 50 _ hl (by decide) w h
  rw [takeN_ok hx hn (by decide)] at ht
  refine ht.mono ?_
  rintro e w' ⟨v, rfl, hv, hi, hb⟩
  obtain ⟨a, c, rfl⟩ := hv.form
  exact ⟨a, c, rfl, hv, hi, hb⟩
theorem inBytes_ok (n0 b : Nat) (s : List Nat) (hs : s.length ≤ 500) (R : List Nat) (hl : Bytes (uv s.length ++ (s ++ R))) (w : World) (h : InB n0 w b (uv s.length ++ (s ++ R)) 0) :
    Calls Try.prog 46 #[.pointer (some ⟨b, 0, none⟩), .int .i64 500] w fun e2 w' => ∃ a c, e2 = .returned (.slice a s.length c) ∧ Sl encY w'.heap.size w' (.slice a s.length c) s ∧ InB n0 w' b R 0 ∧ But [b] w w' := by
  have ht := inBytes_any n0 b 0 500 _ hl (by decide) w h
  rw [takeB_ok hs (by decide)] at ht
  refine ht.mono ?_
  rintro e w' ⟨v, rfl, hv, _, hi, hb⟩
  obtain ⟨a, c, rfl⟩ := hv.form
  exact ⟨a, c, rfl, hv, hi, hb⟩

theorem takeN_err (l : List Nat) (e most : Nat) (h : (takeN l e most).2.2 ≠ 0) : (takeN l e most).1 = [] := by
  unfold takeN at h ⊢
  exact if_neg h
theorem allR_bad {l : List Nat} {most : Nat} (h : (allR l most).2 ≠ 0) : (allR l most).1 = [] := by
  unfold allR at h ⊢
  split
  · rfl
  · rename_i h0
    rw [if_neg h0] at h
    exact takeN_err _ _ _ h
theorem allR_good {l : List Nat} (hl : Bytes l) {most : Nat} (h : (allR l most).2 = 0) : l = listL (allR l most).1 ∧ (allR l most).1.length ≤ most ∧ ∀ m ∈ (allR l most).1, In64 m := by
  unfold allR at h ⊢
  split
  · rename_i h0; rw [if_pos h0] at h; cases h
  · rename_i h0
    rw [if_neg h0] at h
    refine takeN_canon hl most ?_
    have h1 : (takeN l 0 most).2.1 = [] := List.eq_nil_of_length_eq_zero (by omega)
    have h2 : (takeN l 0 most).2.2 = 0 := h
    exact Prod.ext h1 h2
end Go.Proofs.Ytbdigpfeedcgaaa
