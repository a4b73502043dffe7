/- Rows of entries: what of one is owned, stored, copied and cleared. slices.DeleteFunc at entries. -/
import Derived.Test.YtpcbdjdmhemjdaaPriD
namespace Go.Proofs.Ytpcbdjdmhemjdaa
open Go.RowKit
set_option linter.unusedVariables false
attribute [local go_sem] Oper.semAt_some

theorem flatVE_cons (y : Ent) (l : List Ent) : flatVE (y :: l) = Value.int .u64 (y.1 : Nat) :: Value.int .i64 y.2 :: flatVE l := by unfold flatVE; rw [List.flatMap_cons]; rfl
theorem flatVE_append (l m : List Ent) : flatVE (l ++ m) = flatVE l ++ flatVE m := by unfold flatVE; rw [List.flatMap_append]
theorem flatVE_take : ∀ (l : List Ent) (k : Nat), flatVE (l.take k) = (flatVE l).take (k * 2)
  | [], k => by simp [flatVE]
  | y :: l, 0 => by simp [flatVE]
  | y :: l, k + 1 => by
    rw [List.take_succ_cons, flatVE_cons, flatVE_cons, flatVE_take l k, show (k + 1) * 2 = k * 2 + 1 + 1 from by omega, List.take_succ_cons, List.take_succ_cons]
theorem flatVE_drop : ∀ (l : List Ent) (k : Nat), flatVE (l.drop k) = (flatVE l).drop (k * 2)
  | [], k => by simp [flatVE]
  | y :: l, 0 => by simp
  | y :: l, k + 1 => by
    rw [List.drop_succ_cons, flatVE_cons, flatVE_drop l k, show (k + 1) * 2 = k * 2 + 1 + 1 from by omega, List.drop_succ_cons, List.drop_succ_cons]
theorem flatVE_set : ∀ (l : List Ent) (i : Nat) (x : Ent), flatVE (l.set i x) = ((flatVE l).set (i * 2) (.int .u64 (x.1 : Nat))).set (i * 2 + 1) (.int .i64 x.2)
  | [], i, x => by simp [flatVE]
  | y :: l, 0, x => by rw [List.set_cons_zero, flatVE_cons, flatVE_cons]; rfl
  | y :: l, i + 1, x => by
    rw [List.set_cons_succ, flatVE_cons, flatVE_cons, flatVE_set l i x, show (i + 1) * 2 = i * 2 + 2 from by omega]
    rfl
theorem flatVE_at : ∀ (l : List Ent) (j : Nat) (u : Value), (flatVE l)[j]? = some u → ∃ i x, l[i]? = some x ∧ ((j = i * 2 ∧ u = .int .u64 (x.1 : Nat)) ∨ (j = i * 2 + 1 ∧ u = .int .i64 x.2))
  | [], j, u, h => by simp [flatVE] at h
  | y :: l, j, u, h => by
    rw [flatVE_cons] at h
    match j with
    | 0 => simp at h; exact ⟨0, y, rfl, .inl ⟨rfl, h.symm⟩⟩
    | 1 => simp at h; exact ⟨0, y, rfl, .inr ⟨rfl, h.symm⟩⟩
    | j + 2 =>
      obtain ⟨i, x, h1, h2⟩ := flatVE_at l j u (by simpa using h)
      refine ⟨i + 1, x, by simpa using h1, ?_⟩
      rcases h2 with ⟨rfl, rfl⟩ | ⟨rfl, rfl⟩
      · exact .inl ⟨by omega, rfl⟩
      · exact .inr ⟨by omega, rfl⟩
theorem flatVE_one (l : List Ent) : ∀ u ∈ flatVE l, u.oneCell' = true := fun u hu => by
  obtain ⟨j, hj⟩ := List.getElem?_of_mem hu
  obtain ⟨i, x, _, ⟨_, rfl⟩ | ⟨_, rfl⟩⟩ := flatVE_at l j u hj <;> rfl
section
variable {w : World} {base e size g n cap k : Nat} {xs : List Value}
/-- A beginning of a row is owned. -/
theorem own_take (h : w.ownsRow base e size (.slice (some ⟨g, 0, none⟩) n cap) n xs) (hk : k ≤ n) : w.ownsRow base e size (.slice (some ⟨g, 0, none⟩) k cap) k (xs.take (k * size)) := by
  have hks : k * size ≤ n * size := Nat.mul_le_mul_right _ hk
  refine ⟨by rw [List.length_take, h.1]; omega, .inr ?_⟩
  rcases h.2 with ⟨e, _⟩ | ⟨g', cap', cur, e, hb, hg, hn, hm, hs, ht⟩
  · cases e
  · cases e
    refine ⟨g, cap, cur, rfl, hb, hg, by omega, hm, hs, ?_⟩
    rw [← ht, List.take_take]
    congr 1
    omega
/-- A row behind a write of cells into it. -/
theorem own_cells (h : w.ownsRow base e size (.slice (some ⟨g, 0, none⟩) n cap) n xs) : ∃ cur : Array Value, w.heap[g]? = some (.cells cur e (0, 0)) ∧ base ≤ g ∧ n ≤ cap ∧ cap ≤ maxLen ∧ cur.size = cap * size ∧ cur.toList.take (n * size) = xs := by
  rcases h.2 with ⟨e, _⟩ | ⟨g', cap', cur, e, hb, hg, hn, hm, hs, ht⟩
  · cases e
  · cases e
    exact ⟨cur, hg, hb, hn, hm, hs, ht⟩
theorem but_setRow (w : World) (g : Nat) (cs : Array Value) : But [g] w (w.setRow g cs) :=
  ⟨rfl, rfl, rfl, by simp [World.setRow], fun k _ hk => setRow_other w g k cs (fun e => hk (by simp [e]))⟩
end
/-- What is owned, from a place on, can be read. -/
theorem EnsP.of_tail {w : World} {base g n cap p : Nat} {M : List Ent} (h : w.ownsRow base 41 2 (.slice (some ⟨g, 0, none⟩) n cap) n (flatVE M)) (hM : M.length = n) (hp : p ≤ n) : ∀ a c, (p < n → a = some ⟨g, p * 2, none⟩ ∧ c = cap - p) → EnsP w.heap.size w (.slice a (n - p) c) (M.drop p) := fun a c ha => by
  obtain ⟨cur, hg, hb, hn, _, hs, ht⟩ := own_cells h
  rcases Nat.lt_or_ge p n with hlt | hge
  · obtain ⟨rfl, rfl⟩ := ha hlt
    refine .inr ⟨g, p * 2, cap - p, by rw [List.length_drop, hM], (Array.getElem?_eq_some_iff.1 hg).1, by rw [List.length_drop]; omega, fun j x hj => ?_⟩
    rw [List.getElem?_drop] at hj
    have hlt2 := (List.getElem?_eq_some_iff.1 hj).1
    obtain ⟨f1, f2⟩ := flatVE_get M _ x hj
    refine ⟨?_, ?_⟩
    · rw [h.cellAt _ (by omega), show p * 2 + j * 2 = (p + j) * 2 from by omega]; exact f1
    · rw [h.cellAt _ (by omega), show p * 2 + j * 2 + 1 = (p + j) * 2 + 1 from by omega]; exact f2
  · obtain rfl : p = n := by omega
    exact .inl ⟨List.drop_eq_nil_of_le (by omega), a, c, by rw [Nat.sub_self]⟩
/-- clear of a slice in a row of entries: what stands ahead of it stays. -/
theorem wpList_clear_row {P : Program} {w : World} {ops : Array Oper} {rest : List Oper} {o : Oper} {a : Act} {Q : Exit → Act → World → Prop} (hgd : o.guard = none) (d : Operand) (t : TypeId)
    (ho : o.op = .call { callee := .builtin .clear, args := #[d], argTypes := #[t] }) (elem : TypeId) (hu : P.underlying t = some (.slice elem)) (z : Value) (hv : ∀ w, (zeroValue elem).run P w = .ok z w) (hz : z.cells = #[.int .u64 0, .int .i64 0])
    (g off n c : Nat) (hd : a.eval d = .slice (some ⟨g, off, none⟩) n c) (hn : 0 < n)
    (base k cap : Nat) (xs : List Value) (hown : w.ownsRow base elem 2 (.slice (some ⟨g, 0, none⟩) k cap) k xs) (hko : k * 2 ≤ off) (hfit : off + n * 2 ≤ cap * 2)
    (h : ∀ w', Hid (w'.ownsRow base elem 2 (.slice (some ⟨g, 0, none⟩) k cap) k xs) → Hid (But [g] w w') → wpList P ops Q rest (a.put o.dst (.tuple #[])) w') : wpList P ops Q (o :: rest) a w := by
  obtain ⟨cur, hg, hb, hkc, hm, hs, ht⟩ := own_cells hown
  obtain ⟨zs, hzs⟩ : ∃ zs, (Builtin.zeroCells z.cells n).toList = zs := ⟨_, rfl⟩
  have hl : zs.length = n * 2 := by rw [← hzs, hz]; simp [Builtin.zeroCells]
  have h1 : ∀ v ∈ zs, v.oneCell' = true := fun v hv' => by
    rw [← hzs, hz] at hv'
    simp only [Builtin.zeroCells, Array.toList_map, List.mem_map] at hv'
    obtain ⟨i, _, rfl⟩ := hv'
    have : i % 2 = 0 ∨ i % 2 = 1 := by omega
    rcases this with e | e <;> simp [e, Value.oneCell']
  have hst := run_storeCells_at P g off elem zs 0 cur w hg (by simp; omega) h1
  simp only [Nat.add_zero] at hst
  have hrun : (Builtin.clear_ #[t] o.type #[.slice (some ⟨g, off, none⟩) n c]).run P w = .ok (.tuple #[]) (w.setRow g (cur.toList.take off ++ zs ++ cur.toList.drop (off + zs.length)).toArray) := by
    obtain ⟨m, rfl⟩ : ∃ m, n = m + 1 := ⟨n - 1, by omega⟩
    simp [Builtin.clear_, run_underlying hu, hv, hzs, hst]
  refine wpList_plain hgd fun K hK => ?_
  unfold Oper.wp
  simp [execOp, ho, resolve, invoke, builtin, hd, hrun, Result.andThen]
  refine hK _ _ ?_
  have hw := h (w.setRow g (cur.toList.take off ++ zs ++ cur.toList.drop (off + zs.length)).toArray) (Lib.hid ⟨hown.1, .inr ⟨g, cap, _, rfl, hb, setRow_heap w g cur _ elem _ hg, hkc, hm, ?_, ?_⟩⟩) (Lib.hid (but_setRow w g _))
  · simpa using hw
  · simp; omega
  · rw [← ht]
    simp only [List.append_assoc]
    rw [List.take_append_of_le_length (by simp; omega), List.take_take]
    congr 1
    omega
end Go.Proofs.Ytpcbdjdmhemjdaa
