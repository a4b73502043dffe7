/- Texts put into a table one by one, each with its place: what the table then has. -/
import Derived.Test.YtchnjafcnigllaaTabKH
import Derived.Test.YtchnjafcnigllaaOpenTx
import Derived.Test.YtchnjafcnigllaaTabU
namespace Go.Proofs.Ytchnjafcnigllaa.TK
open Go.RowKit
set_option linter.unusedVariables false
attribute [local go_sem] Oper.semAt_some

theorem mem_ins {k : ByteArray} {v : Int} : ∀ {l : KV}, Tr.Rising ltN l → ∀ x ∈ Tr.insK ltN k v l, x = (k, v) ∨ (x ∈ l ∧ x.1 ≠ k)
  | [], _, x, hx => by
    simp [Tr.insK] at hx
    exact .inl hx
  | (a, b) :: r, hr, x, hx => by
    obtain ⟨h1, h2⟩ := List.pairwise_cons.1 hr
    unfold Tr.insK at hx
    split at hx
    · rename_i e
      subst e
      rcases List.mem_cons.1 hx with rfl | hx
      · exact .inl rfl
      · exact .inr ⟨List.mem_cons_of_mem _ hx, fun e => Tr.ne_of ordN (h1 x hx) e.symm⟩
    · rename_i e
      split at hx
      · rename_i hlt
        rcases List.mem_cons.1 hx with rfl | hx
        · exact .inl rfl
        · refine .inr ⟨hx, fun e2 => ?_⟩
          rcases List.mem_cons.1 hx with rfl | hx
          · exact e e2.symm
          · exact Tr.ne_of ordN (ordN.trans _ _ _ hlt (h1 x hx)) e2.symm
      · rcases List.mem_cons.1 hx with rfl | hx
        · exact .inr ⟨List.mem_cons_self, fun e2 => e e2.symm⟩
        · rcases mem_ins h2 x hx with h | ⟨h, h'⟩
          · exact .inl h
          · exact .inr ⟨List.mem_cons_of_mem _ h, h'⟩
theorem get_same {k : ByteArray} {v : Int} : ∀ l : KV, (Tr.getK k (Tr.insK ltN k v l)).isSome = true
  | [] => by simp [Tr.insK, Tr.getK]
  | (a, b) :: r => by
    have ih := get_same (k := k) (v := v) r
    unfold Tr.insK
    split
    · rename_i e; subst e; simp [Tr.getK]
    · rename_i e
      split
      · simp [Tr.getK]
      · simp only [Tr.getK]
        rw [if_neg e]
        exact ih
theorem get_other {k k' : ByteArray} {v : Int} (hne : k' ≠ k) : ∀ l : KV, Tr.getK k (Tr.insK ltN k' v l) = Tr.getK k l
  | [] => by simp [Tr.insK, Tr.getK, Ne.symm hne]
  | (a, b) :: r => by
    have ih := get_other (v := v) hne r
    unfold Tr.insK
    split
    · rename_i h
      subst h
      simp [Tr.getK, Ne.symm hne]
    · split
      · simp [Tr.getK, Ne.symm hne]
      · simp only [Tr.getK]
        rw [ih]
theorem ins_len (k : ByteArray) (v : Int) : ∀ l : KV, (Tr.insK ltN k v l).length ≤ l.length + 1
  | [] => by simp [Tr.insK]
  | (a, b) :: r => by
    have ih := ins_len k v r
    unfold Tr.insK
    split
    · simp
    · split
      · simp
      · simp only [List.length_cons]; omega
/-- What a table has, into which the first i of some texts were put. -/
structure LastOf (ks : List ByteArray) (i : Nat) (l : KV) : Prop where
  mem : ∀ x ∈ l, ∃ j : Nat, j < i ∧ x.2 = (j : Int) ∧ ks[j]? = some x.1 ∧ ∀ j', j < j' → j' < i → ks[j']? ≠ some x.1
  get : ∀ j k, j < i → ks[j]? = some k → (Tr.getK k l).isSome = true
  len : l.length ≤ i
theorem LastOf.zero (ks : List ByteArray) : LastOf ks 0 [] := ⟨(fun x h => nomatch h), (fun j k h => by omega), Nat.le_refl _⟩
theorem LastOf.next {ks : List ByteArray} {i : Nat} {l : KV} {k : ByteArray} (h : LastOf ks i l) (hr : Tr.Rising ltN l) (hk : ks[i]? = some k) : LastOf ks (i + 1) (Tr.insK ltN k (i : Nat) l) := by
  refine ⟨fun x hx => ?_, fun j k' hj hk' => ?_, by have := ins_len k (i : Nat) l; have := h.len; omega⟩
  · rcases mem_ins hr x hx with rfl | ⟨hx, hne⟩
    · exact ⟨i, by omega, rfl, hk, fun j' h1 h2 => by omega⟩
    · obtain ⟨j, h1, h2, h3, h4⟩ := h.mem x hx
      refine ⟨j, by omega, h2, h3, fun j' h5 h6 e => ?_⟩
      rcases Nat.lt_or_ge j' i with h7 | h7
      · exact h4 j' h5 h7 e
      · obtain rfl : j' = i := by omega
        rw [hk] at e
        cases e
        exact hne rfl
  · by_cases hkk : k = k'
    · subst hkk; exact get_same l
    · rw [get_other hkk]
      refine h.get j k' ?_ hk'
      rcases Nat.lt_or_ge j i with h7 | h7
      · exact h7
      · obtain rfl : j = i := by omega
        rw [hk] at hk'
        cases hk'
        exact (hkk rfl).elim
/-- What stays while the table is told: how many came, the last one. -/
structure TxJ (w0 : World) (LB NB : Nat) (L : KV) (s : KV × Nat) (W : World) : Prop where
  but : But [LB, NB] w0 W
  num : Boxed W NB 3 (.int .i64 s.2)
  last : ∃ z, Boxed W LB 9 (.string z) ∧ (s.2 = 0 ∨ ∃ x, L[s.2 - 1]? = some x ∧ z = x.1)
  rem : L.drop s.2 = s.1
  le : s.2 ≤ L.length
theorem TxJ.noRec {w0 : World} {LB NB : Nat} {L : KV} (hL : LB < w0.heap.size) (hN : NB < w0.heap.size) (s : KV × Nat) : NoRec w0.heap.size (TxJ w0 LB NB L s) := fun W o k hk h => by
  obtain ⟨z, h1, h2⟩ := h.last
  exact ⟨h.but.trans (But.putObj W k o) (fun j hj => by simp at hj; omega), ((But.putObj W k o).block _ h.num.lt (by simp; omega)).trans h.num, ⟨z, ((But.putObj W k o).block _ h1.lt (by simp; omega)).trans h1, h2⟩, h.rem, h.le⟩
theorem txC {w0 : World} {LB NB : Nat} {L : KV} {u v : Value} (hL : Boxed w0 LB 9 u) (hN : Boxed w0 NB 3 v) : EachC w0 Prod.fst (TxJ w0 LB NB L) (fun s x W => TxJ w0 LB NB L s W ∧ ∃ r, s.1 = x :: r) (fun s s' => s'.1 = s.1.tail) where
  stay := fun s W h => StayN.of_but h.but (fun k hk cs e => by
    simp at hk
    rcases hk with rfl | rfl
    · have h0 : w0.heap[k]? = some (.cells #[u] 9 (0, 0)) := hL
      rw [h0] at e
      simp at e
    · have h0 : w0.heap[k]? = some (.cells #[v] 3 (0, 0)) := hN
      rw [h0] at e
      simp at e)
  drew := fun s W h => ⟨h.but.drew, h.num, h.last, h.rem, h.le⟩
  yield := fun s W x r h e => ⟨h, r, e⟩
  next := fun s s' h => h
end Go.Proofs.Ytchnjafcnigllaa.TK
