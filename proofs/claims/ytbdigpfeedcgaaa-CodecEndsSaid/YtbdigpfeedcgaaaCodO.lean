/- What the laws of package codec write, step by step. -/
import Derived.Test.YtbdigpfeedcgaaaCodG
import Derived.Test.YtbdigpfeedcgaaaSumLaws
import Derived.Test.YtbdigpfeedcgaaaOpenN
namespace Go.Proofs.Ytbdigpfeedcgaaa
open Go.RowKit
set_option linter.unusedVariables false

theorem Parts.four (w : World) (v1 v2 v3 v4 : Value) (l1 l2 l3 l4 : List Nat) (t : TypeId) (h1 : Sl encY w.heap.size w v1 l1) (h2 : Sl encY w.heap.size w v2 l2) (h3 : Sl encY w.heap.size w v3 l3) (h4 : Sl encY w.heap.size w v4 l4) : Parts (w.alloc (.cells #[v1, v2, v3, v4] t)).heap.size (w.alloc (.cells #[v1, v2, v3, v4] t)) (.slice (some ⟨w.heap.size, 0, none⟩) 4 4) [l1, l2, l3, l4] := by
  refine .inr ⟨w.heap.size, 0, 4, rfl, by simp, fun j x hj => ?_⟩
  match j, hj with
  | 0, hj => cases hj; exact ⟨v1, by rw [cell_new_row]; rfl, (h1.below ((Below.refl _ w).alloc (Nat.le_refl _) _)).mono (by simp)⟩
  | 1, hj => cases hj; exact ⟨v2, by rw [cell_new_row]; rfl, (h2.below ((Below.refl _ w).alloc (Nat.le_refl _) _)).mono (by simp)⟩
  | 2, hj => cases hj; exact ⟨v3, by rw [cell_new_row]; rfl, (h3.below ((Below.refl _ w).alloc (Nat.le_refl _) _)).mono (by simp)⟩
  | 3, hj => cases hj; exact ⟨v4, by rw [cell_new_row]; rfl, (h4.below ((Below.refl _ w).alloc (Nat.le_refl _) _)).mono (by simp)⟩
  | j + 4, hj => simp at hj
theorem Off.low {n : Nat} {W : World} {a : Option Addr} {m c : Nat} {l : List Nat} (h : Sl encY n W (.slice a m c) l) {own : List Nat} (ho : ∀ k ∈ own, n ≤ k) : Off own (.slice a m c) := fun ad m' c' e h0 hm => by
  cases e
  rcases h with ⟨_, a', c', e, _⟩ | ⟨b, off, cap, e, hb, _⟩
  · cases e; omega
  · cases e
    have := ho _ hm
    simp at this; omega

/-- An Out that was made at w0, behind some calls of it. -/
def OutL (w0 : World) (b : Nat) (l : List Nat) (W : World) : Prop := ∃ v, OutTo w0 b (.slice none 0 0) v l W
theorem OutL.new (w : World) : OutL (w.alloc (.cells #[.slice none 0 0] 48)) w.heap.size [] (w.alloc (.cells #[.slice none 0 0] 48)) := ⟨_, OutTo.refl (OutB.new w)⟩
theorem OutL.keeps {w0 W : World} {b n : Nat} {l : List Nat} (h : OutL w0 b l W) (h1 : n ≤ b) (h2 : n ≤ w0.heap.size) : Below n w0 W := by
  obtain ⟨v, h⟩ := h
  exact h.but.below (by intro k hk; simp [Value.ownBlock] at hk; omega) h2
theorem OutL.mono {w0 W W' : World} {b : Nat} {l : List Nat} (h : OutL w0 b l W) (hb : Below W.heap.size W W') : OutL w0 b l W' := by
  obtain ⟨v, h⟩ := h
  exact ⟨v, h.out.below hb, h.but.trans (But.of_below (own := []) hb) (fun k hk => by cases hk), h.own⟩
theorem OutL.uint {w0 W : World} {b N : Nat} {l : List Nat} (h : OutL w0 b l W) (hN : N < 18446744073709551616) (hl : l.length ≤ 1000000) :
    Calls Try.prog 29 #[.pointer (some ⟨b, 0, none⟩), .int .u64 (N : Nat)] W fun e W' => e = .returned (.tuple #[]) ∧ OutL w0 b (l ++ uv N) W' := by
  obtain ⟨v, h⟩ := h
  refine (uint_any N hN b v l (by omega) W h.out).mono ?_
  rintro e W' ⟨rfl, v', h'⟩
  exact ⟨rfl, v', h.trans h'⟩
theorem OutL.int {w0 W : World} {b : Nat} {m : Int} {l : List Nat} (h : OutL w0 b l W) (hm : In64 m) (hl : l.length ≤ 1000000) :
    Calls Try.prog 30 #[.pointer (some ⟨b, 0, none⟩), .int .i64 m] W fun e W' => e = .returned (.tuple #[]) ∧ OutL w0 b (l ++ uv (zig m)) W' := by
  obtain ⟨v, h⟩ := h
  refine (int_any m hm.1 hm.2 b v l (by omega) W h.out).mono ?_
  rintro e W' ⟨rfl, v', h'⟩
  exact ⟨rfl, v', h.trans h'⟩
theorem OutL.own {w0 W : World} {b : Nat} {v : Value} {l : List Nat} (h : OutTo w0 b (.slice none 0 0) v l W) {n : Nat} (h1 : n ≤ b) (h2 : n ≤ w0.heap.size) : ∀ k ∈ b :: v.ownBlock.toList, n ≤ k := by
  intro k hk
  rcases List.mem_cons.1 hk with rfl | hk
  · exact h1
  · rw [Option.mem_toList] at hk
    rcases h.own with e | ⟨g, e, hg⟩
    · rw [e] at hk; cases hk
    · rw [e] at hk; cases hk; omega
theorem OutL.bytes {w0 W : World} {b n : Nat} {l s : List Nat} {pa : Option Addr} {m c : Nat} (h : OutL w0 b l W) (hs : s.length ≤ 1048576) (hl : l.length ≤ 1000000) (hS : Sl encY n W (.slice pa m c) s) (h1 : n ≤ b) (h2 : n ≤ w0.heap.size) :
    Calls Try.prog 31 #[.pointer (some ⟨b, 0, none⟩), .slice pa m c] W fun e W' => e = .returned (.tuple #[]) ∧ OutL w0 b (l ++ (uv s.length ++ s)) W' := by
  obtain ⟨v, h⟩ := h
  refine (obytes_any pa m c s hs b v l (by omega) W h.out (hS.mono (by have := h.but.size; omega)) (Off.low hS (OutL.own h h1 h2))).mono ?_
  rintro e W' ⟨rfl, v', h'⟩
  exact ⟨rfl, v', h.trans h'⟩
theorem OutL.puts {w0 W : World} {b Bs : Nat} {l : List Nat} {xs : List Int} {pa : Option Addr} {m c : Nat} (h : OutL w0 b l W) (hx : ∀ m ∈ xs, In64 m) (hn : xs.length ≤ 10000) (hl : l.length ≤ 1000000) (hBs : Bs < W.heap.size) (hc : W.cell? ⟨Bs, 0, none⟩ = some (.slice pa m c)) (hS : Sl encN W.heap.size W (.slice pa m c) xs) :
    Calls Try.prog 32 #[.pointer (some ⟨b, 0, none⟩), .func (.func 91) #[] #[.pointer (some ⟨Bs, 0, none⟩)], .func (.func 34) #[] #[]] W fun e W' => e = .returned (.tuple #[]) ∧ OutL w0 b (l ++ listL xs) W' := by
  obtain ⟨v, h⟩ := h
  refine (putAll_any xs hx hn Bs pa m c b v l (by omega) W h.out hBs hc hS).mono ?_
  rintro e W' ⟨rfl, v', h'⟩
  exact ⟨rfl, v', h.trans h'⟩
theorem OutL.done {w0 W : World} {b : Nat} {l : List Nat} (h : OutL w0 b l W) (hl : l.length ≤ 1048576) :
    Calls Try.prog 35 #[.pointer (some ⟨b, 0, none⟩)] W fun e W' => ∃ a c, e = .returned (.slice a l.length c) ∧ Sl encY W'.heap.size W' (.slice a l.length c) l ∧ Below W.heap.size W W' := by
  obtain ⟨v, h⟩ := h
  exact done_at h.out hl W (Below.refl _ _)
theorem listL_len {xs : List Int} (hx : ∀ m ∈ xs, In64 m) (hn : xs.length ≤ 10000) : (listL xs).length ≤ 10 + 10 * xs.length := by
  have h1 := uv_len10 (n := xs.length) (by omega)
  have h2 := uvs_len xs hx
  unfold listL
  rw [List.length_append]; omega
end Go.Proofs.Ytbdigpfeedcgaaa
