/- A heap in memory: Drain, as a promise for whatever its caller's invariant is. -/
import Derived.Test.YtpdncgjepfgnjaaHpDI
import Derived.Test.YtpdncgjepfgnjaaRangeG
import Derived.Sort.LoopGhostIn
namespace Go.Proofs.Ytpdncgjepfgnjaa
open Go.RowKit
set_option linter.unusedVariables false
attribute [local go_sem] Oper.semAt_some

theorem drainI (b : Nat) (w : World) :
    Calls Try.prog 33 #[.pointer (some ⟨b, 0, none⟩)] w fun e w' => e = .returned (.func (.func 60) #[] #[.pointer (some ⟨w.heap.size, 0, none⟩)]) ∧ w' = w.alloc (.cells #[.pointer (some ⟨b, 0, none⟩)] 60) := by
  go_enter Try.func33, Try.ntmps33
  go_wp2
  go_ret
  exact ⟨rfl, rfl⟩

/-- What Drain asks of its caller's invariant. -/
structure DrainCI {σ : Type} (key : Int → Int) (of b Bh B : Nat) (own : σ → List Nat) (lst : σ → List (Int × Int)) (puts : σ → Int) (rank : σ → Nat) (J : σ → World → Prop) (Jm : σ → Int → World → Prop) (Af : σ → σ → Prop) (En : σ → World → Prop) : Prop where
  heap : ∀ s W, J s W → ∃ v, HeapI (own s) W b (.func (.func of) #[] #[]) v (lst s) (puts s)
  box : ∀ s W, J s W → W.cell? ⟨Bh, 0, none⟩ = some (.pointer (some ⟨b, 0, none⟩))
  rec0 : ∀ s W, J s W → B ∉ own s ∧ B + 1 ∉ own s
  few : ∀ s W, J s W → (lst s).length ≤ 1073741824
  step : ∀ s W W', J s W → lst s ≠ [] → But (own s) W W' → (∃ v, HeapI (own s) W' b (.func (.func of) #[] #[]) v (takeL' (ahK key) (lst s)) (puts s)) → Jm s (at' (lst s) 0).1 W'
  done : ∀ s W W', J s W → lst s = [] → But (own s) W W' → (∃ v, HeapI (own s) W' b (.func (.func of) #[] #[]) v [] (puts s)) → ∃ s', J s' W' ∧ En s' W'
  rank : ∀ s s', Af s s' → rank s' < rank s

set_option maxRecDepth 100000 in
set_option maxHeartbeats 4000000 in
theorem drain1I {σ : Type} {key : Int → Int} {of b Bh B : Nat} (ho : OrdI of key) {own : σ → List Nat} {lst : σ → List (Int × Int)} {puts : σ → Int} {rank : σ → Nat} {J : σ → World → Prop} {Jm : σ → Int → World → Prop} {Jx : Code → World → Prop} {Af : σ → σ → Prop} {En : σ → World → Prop} {s0 : σ}
    (hC : DrainCI key of b Bh B own lst puts rank J Jm Af En) :
    SeqG Fence.wide 2 Try.prog 60 #[.pointer (some ⟨Bh, 0, none⟩)] (fun (x : Int) => #[valI x]) B J Jm Jx Af En s0 := by
  intro l Rd Dn W hRd hDn hRz hDz hR0 hJ0 hY
  have HC := Lib.hid hC
  have HY := Lib.hid hY
  have HR := Lib.hid hRd
  have HZ := Lib.hid hRz
  have HPOP := Lib.hid (fun (s : σ) (W : World) (hJ : J s W) (v : Value) (hH : HeapI (own s) W b (.func (.func of) #[] #[]) v (lst s) (puts s)) => popI ho (hC.few s W hJ) W hH)
  clear hC hY hRd hRz
  refine callsIn_of_wp Try.func60 rfl trivial ?_ rfl
  simp only [Try.ntmps60, List.size_toArray, List.length_cons, List.length_nil, Nat.reduceAdd, Nat.reduceSub, Array.replicate_succ, Array.replicate_zero, List.push_toArray, List.append_toArray, List.nil_append, List.cons_append]
  gi_wp2
  gi_loopg [3, 4, 5] (rank s0) (fun k _ _ _ wr => ∃ s, k = rank s ∧ J s wr ∧ Rd wr)
  case atStart => exact ⟨s0, rfl, hJ0, hR0⟩
  case round =>
    obtain ⟨s, hk, hJ, hR⟩ := hrel
    obtain ⟨v, hH⟩ := HC.out.heap s wr hJ
    have HP := Lib.hid (HPOP.out s wr hJ v hH)
    have c0 := HC.out.box s wr hJ
    have hrec := HC.out.rec0 s wr hJ
    have hbz := HZ.out wr hR
    have HJ := Lib.hid hJ
    have HRD := Lib.hid hR
    have keepRd : ∀ W', But (own s) wr W' → Rd W' := fun W' hb => HR.out wr W' ⟨hb.block B (by omega) hrec.1, hb.block (B + 1) (by omega) hrec.2⟩ HRD.out
    have HKR := Lib.hid keepRd
    clear keepRd hJ hR hrec hJ0 hR0 hbz hDz
    by_cases hl : lst s = []
    · have e1 : firstI (lst s) = 0 := by rw [hl]; rfl
      have e2 : decide ((lst s).length ≠ 0) = false := by rw [hl]; rfl
      have e3 : restI key (lst s) = [] := by rw [hl]; rfl
      rw [e1, e2, e3] at HP
      have HL := Lib.hid hl
      clear e1 e2 e3 hl hH
      unfold valI at HP
      gi_wp2_with fail
      refine ⟨trivial, ?_⟩
      refine (callsIn_wide.2 HP.out).mono ?_
      rintro e w2 ⟨rfl, h2, hb2⟩
      have H2 := Lib.hid h2
      have B2 := Lib.hid hb2
      clear h2 hb2
      gi_wp2
      refine ⟨fun _ h => (by cases h), ?_⟩
      gi_wp2
      refine bodyPost_ret (results_none rfl _ _ _) rfl ?_
      have hb3 := B2.out
      obtain ⟨v2, h2⟩ := H2.out
      obtain ⟨s', h3, h4⟩ := HC.out.done s wr _ HJ.out HL.out hb3 ⟨v2, h2⟩
      exact ⟨⟨_, rfl⟩, .inl ⟨HKR.out _ hb3, s', h4, h3⟩⟩
    · have e1 : firstI (lst s) = (at' (lst s) 0).1 := if_neg (fun h => hl (List.eq_nil_of_length_eq_zero h))
      have e2 : decide ((lst s).length ≠ 0) = true := decide_eq_true (fun h => hl (List.eq_nil_of_length_eq_zero h))
      have e3 : restI key (lst s) = takeL' (ahK key) (lst s) := if_neg (fun h => hl (List.eq_nil_of_length_eq_zero h))
      rw [e1, e2, e3] at HP
      have HL := Lib.hid hl
      obtain ⟨x, hx⟩ : ∃ x, (at' (lst s) 0).1 = x := ⟨_, rfl⟩
      rw [hx] at HP
      have HX := Lib.hid hx
      clear e1 e2 e3 hl hH hx
      unfold valI at HP HY
      gi_wp2_with fail
      refine ⟨trivial, ?_⟩
      refine (callsIn_wide.2 HP.out).mono ?_
      rintro e w2 ⟨rfl, h2, hb2⟩
      have hb3 := hb2
      obtain ⟨v2, h2⟩ := h2
      have hJm := HC.out.step s wr _ HJ.out HL.out hb3 ⟨v2, h2⟩
      rw [HX.out] at hJm
      obtain ⟨fn, tmps, assign, body, hy, hRR⟩ := HY.out s x _ (HKR.out _ hb3) hJm
      have HRR := Lib.hid hRR
      clear h2 hb2 hb3 hJm hRR
      gi_wp2_with fail
      refine HRR.out.mono ?_
      rintro e3 W4 (⟨rfl, hR4, s', hAf, hJ4⟩ | ⟨rfl, c, hDn4, hJx4⟩)
      · have HR4 := Lib.hid hR4
        have HJ4 := Lib.hid hJ4
        have hrk := HC.out.rank s s' hAf
        clear hR4 hJ4 hAf
        gi_wp2
        gi_roundg (rank s')
        case measure => omega
        case rel => exact ⟨s', rfl, HJ4.out, HR4.out⟩
      · gi_wp2
        refine bodyPost_ret (results_none rfl _ _ _) rfl ?_
        exact ⟨⟨_, rfl⟩, .inr ⟨c, hDn4, hJx4⟩⟩

end Go.Proofs.Ytpdncgjepfgnjaa
