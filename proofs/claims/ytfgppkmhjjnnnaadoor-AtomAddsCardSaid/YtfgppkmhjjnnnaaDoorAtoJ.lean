/- slices.Clone at atoms; atom.Within. -/
import Derived.Test.YtfgppkmhjjnnnaaDoorAtoX
import Derived.Test.YtfgppkmhjjnnnaaDoorAtoB
import Derived.Lib.Strings
namespace Go.Proofs.YtfgppkmhjjnnnaaDoor
open Go.RowKit
set_option linter.unusedVariables false
attribute [local go_sem] Oper.semAt_some

theorem flatVE_at : ∀ (l : List Ent) (j : Nat) (u : Value), (flatVE l)[j]? = some u → ∃ i x, l[i]? = some x ∧ ((j = i * 2 ∧ u = .int .u64 (x.1 : Nat)) ∨ (j = i * 2 + 1 ∧ u = .int .i64 x.2))
  | [], j, u, h => by simp [flatVE] at h
  | y :: l, j, u, h => by
    have e : flatVE (y :: l) = Value.int .u64 (y.1 : Nat) :: Value.int .i64 y.2 :: flatVE l := by unfold flatVE; rw [List.flatMap_cons]; rfl
    rw [e] at h
    match j with
    | 0 => simp at h; exact ⟨0, y, rfl, .inl ⟨rfl, h.symm⟩⟩
    | 1 => simp at h; exact ⟨0, y, rfl, .inr ⟨rfl, h.symm⟩⟩
    | j + 2 =>
      obtain ⟨i, x, h1, h2⟩ := flatVE_at l j u (by simpa using h)
      refine ⟨i + 1, x, by simpa using h1, ?_⟩
      rcases h2 with ⟨rfl, rfl⟩ | ⟨rfl, rfl⟩
      · exact .inl ⟨by omega, rfl⟩
      · exact .inr ⟨by omega, rfl⟩
theorem flatVE_one (l : List Ent) : ∀ u ∈ flatVE l, u.oneCell' = true := fun u hu => by
  obtain ⟨j, hj⟩ := List.getElem?_of_mem hu
  obtain ⟨i, x, _, ⟨_, rfl⟩ | ⟨_, rfl⟩⟩ := flatVE_at l j u hj <;> rfl
theorem add_atom (b off k : Nat) : (⟨b, off, none⟩ : Addr).add k = ⟨b, off + k, none⟩ := by simp [Addr.add]
set_option maxHeartbeats 4000000 in
set_option maxRecDepth 100000 in
theorem cloneAt (a : Option Addr) (n c : Nat) (xs : List Ent) (w : World) (hx : xs.length ≤ 1048576) (h : EnsP w.heap.size w (.slice a n c) xs) (hnil : a = none → xs = []) :
    Calls Tryd.prog 19 #[.slice a n c] w fun e w' => ∃ a' c', e = .returned (.slice a' n c') ∧ EnsP w'.heap.size w' (.slice a' n c') xs ∧ (∀ ad, a' = some ad → w.heap.size ≤ ad.block) ∧ Below w.heap.size w w' := by
  obtain ⟨i0, hi0, hz0, hz1, hz2⟩ := info_parts infoTE
  have q22 : ∀ (w : World) (a : Option Addr) (n c n' c' : Nat), (binOp .eql 22 (.slice a n c) (.slice none n' c')).run Tryd.prog w = .ok (.bool a.isNone) w := fun w a n c n' c' => Lib.run_eql_slice_nil w _ _ a n c n' c' Tryd.underlying22
  have hn := h.len
  have A := Lib.hid h
  clear h
  cases a with
  | none =>
    obtain rfl := hnil rfl
    obtain rfl := hn
    clear hnil
    go_enter Tryd.func19, Tryd.ntmps19
    go_wp2
    go_ret
    exact ⟨none, 0, rfl, .inl ⟨rfl, none, 0, rfl⟩, fun _ h => (nomatch h), Below.refl _ _⟩
  | some ad =>
    have hcell : ∀ j u, (flatVE xs)[j]? = some u → w.cell? (ad.add j) = some u := fun j u hj => by
      obtain ⟨i, x, h1, h2⟩ := flatVE_at xs j u hj
      obtain ⟨b, off, e, _, c1, c2⟩ := A.out.at_ h1
      cases e
      rcases h2 with ⟨rfl, rfl⟩ | ⟨rfl, rfl⟩
      · rw [add_atom]; exact c1
      · rw [add_atom, ← Nat.add_assoc]; exact c2
    have HCL := Lib.hid hcell
    have HN := Lib.hid hn
    have hx2 : n ≤ 1048576 := by omega
    have hc : n ≤ n := Nat.le_refl _
    clear hcell hn hnil hx
    go_enter Tryd.func19, Tryd.ntmps19
    go_wp2_with (at_builtin; refine wpList_append_own _ rfl _ _ 22 rfl w.heap.size 28 i0 (.agg #[.int .u64 0, .int .i64 0]) 2 16 Tryd.underlying22 hi0 hz0 hz1 hz2 rfl (by decide) _ _ _ rfl (World.ownsRow_made w #[] 0 (Nat.le_refl _) (Nat.zero_le _) rfl) ad n c (flatVE xs) rfl ?qc1 ?qc2 ?qc3 ?qc4 ?qc5 ?qc6 ?_)
    case qc1 => rw [flatVE_len, HN.out]
    case qc2 =>
      intro j u hj
      exact Lib.cell?_alloc_some _ (HCL.out j u hj)
    case qc3 => exact flatVE_one xs
    case qc4 => unfold maxLen; omega
    case qc5 => omega
    case qc6 => simp
    intro v' w1 hown hgrow hnil
    have hown2 : w1.ownsRow w.heap.size 28 2 v' xs.length (flatVE xs) := by rw [← HN.out]; simpa using hown
    have HE := Lib.hid (EnsP.of_owns hown2)
    obtain ⟨a', c', rfl⟩ := own_form hown2
    have HGE : Hid (∀ ad, a' = some ad → w.heap.size ≤ ad.block) := Lib.hid (fun ad e => by subst e; exact (World.ownsRow.lt hown2 ad.block rfl).1)
    rw [← HN.out] at HE
    have HB : Hid (Below w.heap.size w w1) := Lib.hid (((Below.refl _ w).alloc (Nat.le_refl _) _).grown hgrow (by simp) (by intro k hk; simp [Value.ownBlock] at hk; omega))
    clear hown hown2 hgrow hnil
    rw [← HN.out]
    go_wp2
    go_ret
    exact ⟨a', c', rfl, HE.out, HGE.out, HB.out⟩
set_option maxRecDepth 100000 in
set_option maxHeartbeats 1000000 in
theorem withinNew (a : Option Addr) (n c s : Nat) (zs : List Ent) (w : World) (hx : zs.length ≤ 1048576) (h : EnsP w.heap.size w (.slice a n c) zs) (hnil : a = none → zs = []) :
    Calls Tryd.prog 11 #[.slice a n c, .int .u64 (s : Nat)] w fun e w' => ∃ B1 B2 sv, e = .returned (.func (.func 39) #[] #[.pointer (some ⟨B1, 0, none⟩), .pointer (some ⟨B2, 0, none⟩)]) ∧ Boxed w' B1 22 sv ∧ Boxed w' B2 23 (.int .u64 (s : Nat)) ∧ EnsP B1 w' sv zs ∧ (∀ ad n c, sv = .slice (some ad) n c → w.heap.size ≤ ad.block) ∧ Below w.heap.size w w' ∧ w.heap.size ≤ B1 ∧ B2 = B1 + 1 ∧ w'.heap.size = B1 + 2 := by
  have HC := Lib.hid (cloneAt a n c zs w hx h hnil)
  have HWO := Lib.hid (fun a c W => withinOf a n c s W)
  clear h hnil hx
  go_enter Tryd.func11, Tryd.ntmps11
  go_wp2_with fail
  refine HC.out.mono ?_
  rintro e w1 ⟨a', c', rfl, hE, hge, hb⟩
  have HE := Lib.hid hE
  have HGE := Lib.hid hge
  have HB := Lib.hid hb
  clear hE hb hge
  go_wp2_with fail
  refine (HWO.out _ _ _).mono ?_
  rintro e w2 ⟨rfl, hw2⟩
  have hb2 : Below w1.heap.size w1 w2 := by rw [hw2]; exact ((Below.refl _ _).alloc (Nat.le_refl _) _).alloc (by simp) _
  have HF : Hid (Boxed w2 w1.heap.size 22 (.slice a' n c') ∧ Boxed w2 (w1.heap.size + 1) 23 (.int .u64 (s : Nat)) ∧ EnsP w1.heap.size w2 (.slice a' n c') zs ∧ Below w.heap.size w w2 ∧ w2.heap.size = w1.heap.size + 2) := Lib.hid (by
    refine ⟨?_, ?_, HE.out.below hb2 (Nat.le_refl _), HB.out.trans (hb2.mono HB.out.size), by rw [hw2]; simp⟩
    · rw [hw2]; exact (Boxed.new w1 _ _).alloc _
    · have h := Boxed.new (w1.alloc (.cells #[.slice a' n c'] 22)) 23 (.int .u64 (s : Nat))
      rw [World.size_alloc] at h
      rw [hw2]
      exact h)
  clear hw2 hb2
  go_wp2
  go_ret
  exact ⟨w1.heap.size, w1.heap.size + 1, .slice a' n c', rfl, HF.out.1, HF.out.2.1, HF.out.2.2.1, fun ad n c e => by cases e; exact HGE.out ad rfl, HF.out.2.2.2.1, HB.out.size, rfl, HF.out.2.2.2.2⟩
end Go.Proofs.YtfgppkmhjjnnnaaDoor
