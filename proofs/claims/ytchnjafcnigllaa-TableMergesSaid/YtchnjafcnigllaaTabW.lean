/- What law TablePlays calls beside the tables' own: a row cut to a length; a number between 1 and 128. -/
import Derived.Test.YtchnjafcnigllaaTabU
import Derived.Test.YtchnjafcnigllaaTabJ
namespace Go.Proofs.Ytchnjafcnigllaa
open Go.RowKit
set_option linter.unusedVariables false

theorem i64_and127 (n : Int) : bits .and .i64 n 127 = n % 128 := by
  have h127 : (BitVec.ofInt 64 127).toNat = 2 ^ 7 - 1 := by decide
  have key : (BitVec.ofInt 64 n &&& BitVec.ofInt 64 127).toNat = (n % ((2 ^ 64 : Nat) : Int)).toNat % 2 ^ 7 := by
    rw [BitVec.toNat_and, BitVec.toNat_ofInt, h127, Nat.and_two_pow_sub_one_eq_mod]
  show IntKind.i64.wrap ((BitVec.ofInt 64 n &&& BitVec.ofInt 64 127).toNat : Nat) = n % 128
  rw [key, IntKind.wrap_i64]
  omega
theorem most_i64 (n : Int) : ∃ q : Nat, 1 ≤ q ∧ q ≤ 128 ∧ wrap64 (1 + bits .and .i64 n 127) = (q : Int) := by
  refine ⟨(1 + n % 128).toNat, by omega, by omega, ?_⟩
  rw [i64_and127]
  unfold wrap64
  omega
/-- A slice of pairs, below the world's end. -/
def VP (u : Value) (W : World) (xs : KV) : Prop := ∃ a n c, u = .slice a n c ∧ PrsP W.heap.size W (.slice a n c) xs
theorem VP.below {u : Value} {W W' : World} {xs : KV} (h : VP u W xs) (hb : Below W.heap.size W W') : VP u W' xs := by
  obtain ⟨a, n, c, e, h⟩ := h
  exact ⟨a, n, c, e, (h.below hb (Nat.le_refl _)).mono hb.size⟩
theorem VP.own {W : World} {base : Nat} {v : Value} {xs : KV} (h : W.ownsRow base 41 2 v xs.length (flatVP xs)) : VP v W xs := by
  obtain ⟨a, c, rfl⟩ := own_form h
  exact ⟨a, _, c, rfl, PrsP.of_owns h⟩
theorem PrsP.cap {n : Nat} {W : World} {a : Option Addr} {m c : Nat} {xs : KV} (h : PrsP n W (.slice a m c) xs) : m ≤ c := by
  rcases h with ⟨rfl, _, _, e⟩ | ⟨b, off, cap, e, _, hc, _⟩
  · cases e; exact Nat.zero_le _
  · cases e; exact hc
set_option maxRecDepth 100000 in
theorem cut_any (R m N : Nat) (a : Option Addr) (n c : Nat) (l : KV) (w : World) (hb : w.cell? ⟨R, 0, none⟩ = some (.int .i64 m)) (hs : PrsP N w (.slice a n c) l) :
    Calls Try.prog 11 #[.slice a n c, .pointer (some ⟨R, 0, none⟩)] w fun e w' => ∃ a' n' c', e = .returned (.slice a' n' c') ∧ PrsP N w (.slice a' n' c') (l.take m) ∧ w' = w := by
  have hc := hs.cap
  have hl := hs.len
  rcases Nat.lt_or_ge m n with h | h
  · have hp := hs.take (k := m) (by omega)
    have g1 : min (n : Int) (m : Int) = (m : Int) := by omega
    have g2 : (0 : Int) ≤ m := by omega
    have g3 : (m : Int) ≤ c := by omega
    have HP := Lib.hid hp
    clear hp hs hl
    go_enter Try.func11, Try.ntmps11
    go_wp2_with fail
    go_ret
    exact ⟨_, _, _, rfl, HP.out, rfl⟩
  · have hp : PrsP N w (.slice a n c) (l.take m) := by rw [List.take_of_length_le (by omega)]; exact hs
    have g1 : min (n : Int) (m : Int) = (n : Int) := by omega
    have g2 : (0 : Int) ≤ n := by omega
    have g3 : (n : Int) ≤ c := by omega
    have HP := Lib.hid hp
    clear hp hs hl
    go_enter Try.func11, Try.ntmps11
    go_wp2_with fail
    go_ret
    exact ⟨_, _, _, rfl, HP.out, rfl⟩
/-- An iterator over the table at T; one from a key on. -/
def IsIt (f T : Nat) (u : Value) (W : World) : Prop := ∃ B, u = .func (.func f) #[] #[.pointer (some ⟨B, 0, none⟩)] ∧ W.heap[B]? = some (.cells #[.pointer (some ⟨T, 0, none⟩)] 24 (0, 0))
def IsFrom (T : Nat) (k : Int) (u : Value) (W : World) : Prop := ∃ B C, u = .func (.func 48) #[] #[.pointer (some ⟨B, 0, none⟩), .pointer (some ⟨C, 0, none⟩)] ∧ W.heap[B]? = some (.cells #[.pointer (some ⟨T, 0, none⟩)] 24 (0, 0)) ∧ W.heap[C]? = some (.cells #[.int .i64 k] 2 (0, 0))
theorem heap_below {W W' : World} {b : Nat} {o : Obj} (h : W.heap[b]? = some o) (hb : Below W.heap.size W W') : W'.heap[b]? = some o := (hb.block _ (Array.getElem?_eq_some_iff.1 h).1).trans h
theorem IsIt.below {f T : Nat} {u : Value} {W W' : World} (h : IsIt f T u W) (hb : Below W.heap.size W W') : IsIt f T u W' := by
  obtain ⟨B, e, h⟩ := h
  exact ⟨B, e, heap_below h hb⟩
theorem IsFrom.below {T : Nat} {k : Int} {u : Value} {W W' : World} (h : IsFrom T k u W) (hb : Below W.heap.size W W') : IsFrom T k u W' := by
  obtain ⟨B, C, e, h1, h2⟩ := h
  exact ⟨B, C, e, heap_below h1 hb, heap_below h2 hb⟩
theorem allIt (T : Nat) (w : World) : Calls Try.prog 14 #[.pointer (some ⟨T, 0, none⟩)] w fun e w' => ∃ u, e = .returned u ∧ IsIt 45 T u w' ∧ Below w.heap.size w w' :=
  (allN T w).mono (by
    rintro e w' ⟨rfl, rfl⟩
    exact ⟨_, rfl, ⟨_, rfl, World.alloc_heap_new w _⟩, (Below.refl _ _).alloc (Nat.le_refl _) _⟩)
theorem backIt (T : Nat) (w : World) : Calls Try.prog 15 #[.pointer (some ⟨T, 0, none⟩)] w fun e w' => ∃ u, e = .returned u ∧ IsIt 47 T u w' ∧ Below w.heap.size w w' :=
  (backN T w).mono (by
    rintro e w' ⟨rfl, rfl⟩
    exact ⟨_, rfl, ⟨_, rfl, World.alloc_heap_new w _⟩, (Below.refl _ _).alloc (Nat.le_refl _) _⟩)
theorem fromIt (T : Nat) (k : Int) (w : World) : Calls Try.prog 17 #[.pointer (some ⟨T, 0, none⟩), .int .i64 k] w fun e w' => ∃ u, e = .returned u ∧ IsFrom T k u w' ∧ Below w.heap.size w w' :=
  (fromOfN T k w).mono (by
    rintro e w' ⟨rfl, rfl⟩
    refine ⟨_, rfl, ⟨_, _, rfl, ?_, ?_⟩, ((Below.refl _ _).alloc (Nat.le_refl _) _).alloc (by simp) _⟩
    · rw [heap_alloc_old' _ _ _ (by simp)]; exact World.alloc_heap_new w _
    · have h := World.alloc_heap_new (w.alloc (.cells #[.pointer (some ⟨T, 0, none⟩)] 24)) (.cells #[.int .i64 k] 2)
      rw [World.size_alloc] at h
      exact h)
/-- The row and the table, behind whatever keeps them. -/
theorem prs_low {N : Nat} {W W' : World} {v : Value} {xs : KV} (h : PrsP N W v xs) (hN : W.heap.size = N) (hb : Below N W W') : PrsP W'.heap.size W' v xs := (h.below hb (Nat.le_refl _)).mono (by have := hb.size; omega)
theorem head_at {x : Int × Int} {r : KV} : (x :: r)[0]? = some x := rfl
theorem last_at {l : KV} {z : Int × Int} {q : Nat} (h : l.getLast? = some z) (hq : l.length = q) : l[q - 1]? = some z := by
  rw [List.getLast?_eq_getElem?, hq] at h
  exact h
end Go.Proofs.Ytchnjafcnigllaa
