/- What stays while atoms of an iterator are kept in a row; the statement of the atoms within a set. -/
import Derived.Test.YtfgppkmhjjnnnaaAtoAl
import Derived.Test.YtfgppkmhjjnnnaaOpenAt
import Derived.Test.YtfgppkmhjjnnnaaMasks
namespace Go.Proofs.Ytfgppkmhjjnnnaa
open Go.RowKit
set_option linter.unusedVariables false
attribute [local go_sem] Oper.semAt_some

theorem i64_and127 (n : Int) : bits .and .i64 n 127 = n % 128 := by
  have h127 : (BitVec.ofInt 64 127).toNat = 2 ^ 7 - 1 := by decide
  have key : (BitVec.ofInt 64 n &&& BitVec.ofInt 64 127).toNat = (n % ((2 ^ 64 : Nat) : Int)).toNat % 2 ^ 7 := by
    rw [BitVec.toNat_and, BitVec.toNat_ofInt, h127, Nat.and_two_pow_sub_one_eq_mod]
  show IntKind.i64.wrap ((BitVec.ofInt 64 n &&& BitVec.ofInt 64 127).toNat : Nat) = n % 128
  rw [key, IntKind.wrap_i64]
  omega
theorem and127 (a : Int) : ∃ t : Nat, bits .and .i64 a 127 = (t : Int) ∧ t < 128 := ⟨(a % 128).toNat, by rw [i64_and127]; omega, by omega⟩
/-- What stays: the box with the row, what is to come, what came. -/
structure WiK (w5 : World) (GB g0 N0 : Nat) (out : List Ent) (W : World) : Prop where
  but : But [GB, g0] w5 W
  row : ∃ v, Boxed W GB 22 v ∧ W.ownsRow N0 26 2 v out.length (flatVE out) ∧ ∀ g, v.ownBlock = some g → g = g0 ∨ w5.heap.size + 2 ≤ g
/-- Where the blocks lie. -/
structure WiN (w5 : World) (GB g0 N0 : Nat) : Prop where
  g : N0 ≤ g0
  b : g0 < GB
  l : GB < w5.heap.size
section
variable {w5 : World} {GB g0 N0 : Nat} {out : List Ent} {W : World}
theorem WiK.below {W' : World} (hN : WiN w5 GB g0 N0) (h : WiK w5 GB g0 N0 out W) (hb : Below W.heap.size W W') : WiK w5 GB g0 N0 out W' := by
  obtain ⟨v, h1, h2, h3⟩ := h.row
  exact ⟨h.but.trans' (But.of_below hb), v, (hb.block _ h1.lt).trans h1, row_but h2 (own2 := []) (But.of_below hb) (fun _ _ hk => nomatch hk), h3⟩
theorem WiK.noRec (hN : WiN w5 GB g0 N0) : NoRec w5.heap.size (WiK w5 GB g0 N0 out) := fun W o k hk h => by
  obtain ⟨v, h1, h2, h3⟩ := h.row
  have hb := But.putObj W k o
  have hg := hN.b
  have hl := hN.l
  refine ⟨h.but.trans hb (fun j hj => by simp at hj; omega), v, (hb.block _ h1.lt (by simp; omega)).trans h1, row_but h2 hb (fun g hg' hk' => ?_), h3⟩
  simp at hk'
  subst hk'
  have := h3 g hg'
  omega
/-- One more is kept. -/
theorem WiK.app (hN : WiN w5 GB g0 N0) (h : WiK w5 GB g0 N0 out W) (hz : w5.heap.size + 2 ≤ W.heap.size) {k : Nat} {u : Int} {v v' : Value} (hv : Boxed W GB 22 v) (ob : Obj) {w1 : World}
    (hown : w1.ownsRow N0 26 2 v' (out.length + 1) (flatVE out ++ [.int .u64 (k : Nat), .int .i64 u])) (hg : (W.alloc ob).grownBy w1 v.ownBlock) (hat : v'.ownBlock = v.ownBlock ∨ v'.ownBlock = some (W.alloc ob).heap.size) :
    WiK w5 GB g0 N0 (out ++ [(k, u)]) (w1.setCell ⟨GB, 0, none⟩ v') ∧ SameRec w5.heap.size W (w1.setCell ⟨GB, 0, none⟩ v') := by
  obtain ⟨v0, h1, h2, h3⟩ := h.row
  obtain rfl := boxed_eq hv h1
  have hgb := hN.b
  have hl := hN.l
  have hsz := hg.size
  have hne : v.ownBlock ≠ some GB := fun e => by have := h3 _ e; omega
  have hsame : ∀ k, k < W.heap.size → v.ownBlock ≠ some k → k ≠ GB → (w1.setCell ⟨GB, 0, none⟩ v').heap[k]? = W.heap[k]? := fun k hk hne hkb => by
    rw [Below.heap_setCell _ _ _ _ (by simpa using hkb), hg.block k (by simp; omega) (fun e => hne e.symm), heap_alloc_old' W ob k hk]
  have hbut : But (GB :: (match v.ownBlock with | some g => [g] | none => [])) W (w1.setCell ⟨GB, 0, none⟩ v') :=
    (((But.refl _ W).alloc ob).grown hg (fun k hk => .inl (by rw [hk]; simp))).set (.inl (by simp)) _
  have hvo : ∀ k ∈ (match v.ownBlock with | some g => [g] | none => []), v.ownBlock = some k := fun k hk => by
    cases e : v.ownBlock with
    | none => rw [e] at hk; cases hk
    | some g => rw [e] at hk; simp at hk; rw [hk]
  refine ⟨⟨h.but.trans hbut (fun j hj => ?_), v', ?_, ?_, fun g hg' => ?_⟩, hsame _ (by omega) (fun e => by have := h3 _ e; omega) (by omega), hsame _ (by omega) (fun e => by have := h3 _ e; omega) (by omega)⟩
  · rcases List.mem_cons.1 hj with rfl | hj
    · exact .inl (by simp)
    · rcases h3 _ (hvo _ hj) with e | e
      · exact .inl (by simp [e])
      · exact .inr (by omega)
  · have hb1 : Boxed w1 GB 22 v := (hv.alloc ob).kept hg (fun e => hne e.symm)
    exact hb1.set v'
  · rw [List.length_append, flatVE_app]
    refine row_but hown ((But.refl [GB] w1).set (.inl (by simp)) _) (fun g hg' hk => ?_)
    simp at hk
    subst hk
    rcases hat with e | e
    · exact hne (e ▸ hg')
    · rw [hg'] at e; simp at e; omega
  · rcases hat with e | e
    · exact h3 g (e ▸ hg')
    · rw [hg'] at e
      have hgz : g = W.heap.size + 1 := by simpa using e
      exact .inr (by omega)
end
/-- Between two rounds. -/
def WiJ (w5 : World) (GB g0 N0 mo : Nat) (L : List Ent) (st : List Ent × List Ent) (W : World) : Prop := WiK w5 GB g0 N0 st.2 W ∧ st.2 ++ st.1 = L ∧ st.2.length < mo
theorem wiC {w5 : World} {GB g0 N0 mo B1 B2 s : Nat} {L zs : List Ent} {sv : Value} (hN : WiN w5 GB g0 N0) (h1 : Boxed w5 B1 22 sv) (h2 : Boxed w5 B2 23 (.int .u64 (s : Nat))) (hE : EnsP B1 w5 sv zs) (ho : OffE [GB, g0] sv) (n1 : B1 ∉ [GB, g0]) (n2 : B2 ∉ [GB, g0]) :
    WinC B1 B2 B1 sv zs s Prod.fst (WiJ w5 GB g0 N0 mo L) (fun st x W => WiJ w5 GB g0 N0 mo L st W ∧ ∃ r, st.1 = x :: r) (fun st st' => st'.1 = st.1.tail) where
  row := fun st W h => ⟨(h.1.but.block _ h1.lt n1).trans h1, (h.1.but.block _ h2.lt n2).trans h2, hE.but h.1.but ho (Nat.le_of_lt h1.lt)⟩
  alloc := fun st W o h => ⟨h.1.below hN ((Below.refl _ _).alloc (Nat.le_refl _) _), h.2⟩
  yield := fun st W x r h e => ⟨h, r, e⟩
  next := fun st st' h => h
theorem ask_sub (L : List Ent) (s t : Nat) : askL withinB L (s &&& t) ≤ askL withinB L s ∧ askL withinB L (s &&& t) ≤ askL withinB L t := by
  refine ⟨askL_le (askL_nonneg _ _) (fun x hx hw => askL_ge hx (sOrd.wtrans _ _ _ hw (within_and s t))), askL_le (askL_nonneg _ _) (fun x hx hw => askL_ge hx (sOrd.wtrans _ _ _ hw ?_))⟩
  rw [Nat.and_comm]; exact within_and t s
theorem ask_zero {L : List Ent} (hok : ∀ x ∈ L, okS x.1) : askL withinB (L.filter (rightA 1099511627776)) 0 = 0 := by
  refine Int.le_antisymm (askL_le (Int.le_refl _) (fun x hx hw => ?_)) (askL_nonneg _ _)
  exfalso
  obtain ⟨h1, h2⟩ := List.mem_filter.1 hx
  have h3 := and_within (hok x h1) hw
  rw [Nat.zero_and] at h3
  exact (right_of h2).1 h3.symm
theorem ask_most (L : List Ent) (s : Nat) : askL withinB (L.filter (rightA 1099511627776)) s ≤ 1099511627776 :=
  askL_le (by decide) (fun x hx _ => (right_of (List.mem_filter.1 hx).2).2.2)
end Go.Proofs.Ytfgppkmhjjnnnaa
