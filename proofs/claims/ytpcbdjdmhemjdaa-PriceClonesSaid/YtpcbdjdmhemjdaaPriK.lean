/- A store in memory: what it holds; its calls that read, and Put. -/
import Derived.Test.YtpcbdjdmhemjdaaPriJ
import Derived.Lib.Strings
namespace Go.Proofs.Ytpcbdjdmhemjdaa
open Go.RowKit
set_option linter.unusedVariables false
attribute [local go_sem] Oper.semAt_some

abbrev putP (es : List Ent) (e : Ent) : List Ent := putE ltS withinB 2199023255552 es e
abbrev risesP (es : List Ent) (e : Ent) : Bool := rises withinB 2199023255552 es e
/-- The store at block b: its slice, its entries. -/
structure PS (W : World) (b : Nat) (sv : Value) (es : List Ent) : Prop where
  blk : W.heap[b]? = some (.cells #[sv] 39)
  row : EnsP W.heap.size W sv es
  nil : ∀ m c, sv = .slice none m c → es = []
  tie : Tie es
theorem PS.cell {W : World} {b : Nat} {sv : Value} {es : List Ent} (h : PS W b sv es) : W.cell? ⟨b, 0, none⟩ = some sv := cell_of_row W b 0 _ _ _ h.blk
theorem PS.frozen {W : World} {b : Nat} {sv : Value} {es : List Ent} (h : PS W b sv es) : W.frozen? ⟨b, 0, none⟩ = false := frozen_of_row W b 0 _ _ h.blk
theorem PS.lt {W : World} {b : Nat} {sv : Value} {es : List Ent} (h : PS W b sv es) : b < W.heap.size := (Array.getElem?_eq_some_iff.1 h.blk).1
theorem PS.form {W : World} {b : Nat} {sv : Value} {es : List Ent} (h : PS W b sv es) : ∃ a c, sv = .slice a es.length c := by
  rcases h.row with ⟨rfl, a, c, rfl⟩ | ⟨g, off, cap, rfl, _⟩
  · exact ⟨a, c, rfl⟩
  · exact ⟨_, _, rfl⟩
/-- A block of one slice holds no entries. -/
theorem off_box {n : Nat} {W : World} {sv : Value} {es : List Ent} (h : EnsP n W sv es) {b t : Nat} {a : Option Addr} {m c : Nat} (hb : W.heap[b]? = some (.cells #[.slice a m c] t)) : OffE [b] sv := fun ad n' c' e h0 => by
  rcases h with ⟨rfl, a', c'', e2⟩ | ⟨g, off, cap, e2, hg, hcap, hc⟩
  · rw [e2] at e; cases e; omega
  · rw [e2] at e
    cases e
    obtain ⟨x, hx⟩ : ∃ x, es[0]? = some x := ⟨_, List.getElem?_eq_getElem (by omega)⟩
    obtain ⟨h1, _⟩ := hc 0 x hx
    intro hk
    obtain rfl : g = b := by simpa using hk
    have hgt : W.heap[(⟨g, off + 0 * 2, none⟩ : Addr).block]? = some (.cells #[.slice a m c] t) := hb
    simp only [World.cell?, hgt] at h1
    match off, h1 with
    | 0, h1 => simp at h1
    | o + 1, h1 => simp at h1
theorem OffE.both {b : Nat} {own : List Nat} {sv : Value} (h : OffE [b] sv) (h2 : OffE own sv) : OffE (b :: own) sv := fun ad n c e h0 hk => by
  rcases List.mem_cons.1 hk with e2 | e2
  · exact h ad n c e h0 (by simp [e2])
  · exact h2 ad n c e h0 e2
theorem PS.but {own : List Nat} {W W' : World} {b : Nat} {sv : Value} {es : List Ent} (h : PS W b sv es) (hb : But own W W') (hn : b ∉ own) (ho : OffE own sv) : PS W' b sv es :=
  ⟨(hb.block b h.lt hn).trans h.blk, (h.row.but hb ho (Nat.le_refl _)).mono hb.size, h.nil, h.tie⟩
theorem PS.below {W W' : World} {b : Nat} {sv : Value} {es : List Ent} (h : PS W b sv es) (hb : Below W.heap.size W W') : PS W' b sv es := h.but (own := []) (But.of_below hb) (by simp) (fun _ _ _ _ _ hk => nomatch hk)
/-- Another store may have turned. -/
theorem PS.other {W W' : World} {b b2 : Nat} {sv sv2 : Value} {es es2 : List Ent} (h : PS W b sv es) (h2 : PS W b2 sv2 es2) (hne : b ≠ b2) (hb : But [b2] W W') : PS W' b sv es := by
  obtain ⟨a, c, rfl⟩ := h2.form
  exact h.but hb (by simpa using hne) (off_box h.row h2.blk)
/-- A new store. -/
theorem PS.fresh {W : World} {base : Nat} {b : Nat} {sv : Value} {es : List Ent} (hb : W.heap[b]? = some (.cells #[sv] 39)) (hrow : W.ownsRow base 41 2 sv es.length (flatVE es)) (ht : Tie es) : PS W b sv es :=
  ⟨hb, EnsP.of_owns hrow, (fun m c e => by
    rcases hrow.2 with ⟨_, h0⟩ | ⟨g, cap, cur, e2, _⟩
    · exact List.eq_nil_of_length_eq_zero h0
    · rw [e2] at e; cases e), ht⟩
section
variable {b : Nat} {sv : Value} {es : List Ent}
set_option maxHeartbeats 1000000 in
theorem ask_any (s : Nat) (w : World) (h : PS w b sv es) (hs : okS s) (hlen : es.length ≤ 1048576) :
    Calls Try.prog 15 #[.pointer (some ⟨b, 0, none⟩), .int .u64 (s : Nat)] w fun o w' => o = .returned (.int .i64 (askL withinB es s)) ∧ Below w.heap.size w w' := by
  obtain ⟨a, c, rfl⟩ := h.form
  have c0 := h.cell
  have HA := Lib.hid (asked_any a es.length c s es w hs h.tie hlen h.row)
  clear h
  go_enter Try.func15, Try.ntmps15
  go_wp2_with fail
  refine HA.out.mono ?_
  rintro o w1 ⟨rfl, hb⟩
  have HB := Lib.hid hb
  clear hb c0
  go_wp2_with fail
  go_ret
  exact ⟨rfl, HB.out⟩
set_option maxHeartbeats 1000000 in
theorem len_any (w : World) (h : PS w b sv es) :
    Calls Try.prog 12 #[.pointer (some ⟨b, 0, none⟩)] w fun o w' => o = .returned (.int .i64 (es.length : Nat)) ∧ w = w' := by
  obtain ⟨a, c, rfl⟩ := h.form
  have c0 := h.cell
  clear h
  go_enter Try.func12, Try.ntmps12
  go_wp2_with fail
  go_ret
  exact ⟨rfl, rfl⟩
end
set_option maxHeartbeats 4000000 in
set_option maxRecDepth 100000 in
theorem cloneE (a : Option Addr) (n c : Nat) (xs : List Ent) (w : World) (hx : xs.length ≤ 1048576) (h : EnsP w.heap.size w (.slice a n c) xs) (hnil : ∀ m c', (Value.slice a n c) = .slice none m c' → xs = []) :
    Calls Try.prog 27 #[.slice a n c] w fun e w' => ∃ v', e = .returned v' ∧ w'.ownsRow w.heap.size 41 2 v' xs.length (flatVE xs) ∧ Below w.heap.size w w' := by
  obtain ⟨i0, hi0, hz0, hz1, hz2⟩ := info_parts infoTE
  have q22 : ∀ (w : World) (a : Option Addr) (n c n' c' : Nat), (binOp .eql 22 (.slice a n c) (.slice none n' c')).run Try.prog w = .ok (.bool a.isNone) w := fun w a n c n' c' => Lib.run_eql_slice_nil w _ _ a n c n' c' Try.underlying22
  have hn := h.len
  have A := Lib.hid h
  clear h
  cases a with
  | none =>
    obtain rfl := hnil _ _ rfl
    obtain rfl := hn
    clear hnil
    go_enter Try.func27, Try.ntmps27
    go_wp2
    go_ret
    exact ⟨_, rfl, World.ownsRow_nil _ _ _ _, Below.refl _ _⟩
  | some ad =>
    have hcell : ∀ j u, (flatVE xs)[j]? = some u → w.cell? (ad.add j) = some u := fun j u hj => by
      obtain ⟨i, x, h1, h2⟩ := flatVE_at xs j u hj
      obtain ⟨b, off, e, _, c1, c2⟩ := A.out.at_ h1
      cases e
      rcases h2 with ⟨rfl, rfl⟩ | ⟨rfl, rfl⟩
      · rw [add_ent]; exact c1
      · rw [add_ent, ← Nat.add_assoc]; exact c2
    have HCL := Lib.hid hcell
    have HN := Lib.hid hn
    have hx2 : n ≤ 1048576 := by omega
    have hc : n ≤ n := Nat.le_refl _
    clear hcell hn hnil hx
    go_enter Try.func27, Try.ntmps27
    go_wp2_with (at_builtin; refine wpList_append_own _ rfl _ _ 22 rfl w.heap.size 41 i0 (.agg #[.int .u64 0, .int .i64 0]) 2 16 Try.underlying22 hi0 hz0 hz1 hz2 rfl (by decide) _ _ _ rfl (World.ownsRow_made w #[] 0 (Nat.le_refl _) (Nat.zero_le _) rfl) ad n c (flatVE xs) rfl ?qc1 ?qc2 ?qc3 ?qc4 ?qc5 ?qc6 ?_)
    case qc1 => rw [flatVE_len, HN.out]
    case qc2 =>
      intro j u hj
      exact Lib.cell?_alloc_some _ (HCL.out j u hj)
    case qc3 => exact flatVE_one xs
    case qc4 => unfold maxLen; omega
    case qc5 => omega
    case qc6 => simp
    intro v' w1 hown hgrow hnil
    have hown2 : w1.ownsRow w.heap.size 41 2 v' xs.length (flatVE xs) := by rw [← HN.out]; simpa using hown
    have HE := Lib.hid hown2
    have HB : Hid (Below w.heap.size w w1) := Lib.hid (((Below.refl _ w).alloc (Nat.le_refl _) _).grown hgrow (by simp) (by intro k hk; simp [Value.ownBlock] at hk; omega))
    clear hown hown2 hgrow hnil
    go_wp2
    go_ret
    exact ⟨v', rfl, HE.out, HB.out⟩
set_option maxHeartbeats 1000000 in
theorem list_any {b : Nat} {sv : Value} {es : List Ent} (w : World) (h : PS w b sv es) (hlen : es.length ≤ 1048576) :
    Calls Try.prog 11 #[.pointer (some ⟨b, 0, none⟩)] w fun o w' => ∃ v', o = .returned v' ∧ w'.ownsRow w.heap.size 41 2 v' es.length (flatVE es) ∧ Below w.heap.size w w' := by
  obtain ⟨a, c, rfl⟩ := h.form
  have c0 := h.cell
  have HC := Lib.hid (cloneE a es.length c es w hlen h.row h.nil)
  clear h
  go_enter Try.func11, Try.ntmps11
  go_wp2_with fail
  refine HC.out.mono ?_
  rintro o w1 ⟨v', rfl, hown, hb⟩
  have HO := Lib.hid hown
  have HB := Lib.hid hb
  clear hown hb c0
  go_wp2_with fail
  go_ret
  exact ⟨v', rfl, HO.out, HB.out⟩
set_option maxHeartbeats 1000000 in
theorem entriesOf_any {b : Nat} {sv : Value} {es : List Ent} (w : World) (h : PS w b sv es) :
    Calls Try.prog 35 #[.pointer (some ⟨b, 0, none⟩)] w fun o w' => o = .returned sv ∧ w = w' := by
  have c0 := h.cell
  clear h
  go_enter Try.func35, Try.ntmps35
  go_wp2_with fail
  go_ret
  exact ⟨rfl, rfl⟩
set_option maxHeartbeats 1000000 in
theorem cloneS_any {b : Nat} {sv : Value} {es : List Ent} (w : World) (h : PS w b sv es) :
    Calls Try.prog 21 #[.pointer (some ⟨b, 0, none⟩)] w fun o w' => ∃ b', o = .returned (.pointer (some ⟨b', 0, none⟩)) ∧ w.heap.size ≤ b' ∧ PS w' b' sv es ∧ Below w.heap.size w w' := by
  obtain ⟨a, c, rfl⟩ := h.form
  have c0 := h.cell
  have H := Lib.hid h
  clear h
  go_enter Try.func21, Try.ntmps21
  go_wp2_with fail
  go_ret
  exact ⟨w.heap.size, rfl, Nat.le_refl _, ⟨World.alloc_heap_new w _, ((H.out.row.but (own := []) (But.of_below ((Below.refl _ _).alloc (Nat.le_refl _) _)) (fun _ _ _ _ _ hk => nomatch hk) (Nat.le_refl _))).mono (by simp), H.out.nil, H.out.tie⟩, (Below.refl _ _).alloc (Nat.le_refl _) _⟩
end Go.Proofs.Ytpcbdjdmhemjdaa
