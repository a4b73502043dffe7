/- A store in memory: Rise, Same. -/
import Derived.Test.YtpcbdjdmhemjdaaPriL
import Derived.Test.YtpcbdjdmhemjdaaPriT
namespace Go.Proofs.Ytpcbdjdmhemjdaa
open Go.RowKit
set_option linter.unusedVariables false
attribute [local go_sem] Oper.semAt_some

theorem ask_most {es : List Ent} (ht : Tie es) (s : Nat) : askL withinB es s ≤ 2199023255552 := askL_le (by decide) (fun x hx _ => (ht.right x hx).2.2.2)
def inBy (by_ : Int) : Bool := decide (1 ≤ by_) && decide (by_ ≤ 1099511627776)
/-- What a rise makes of entries. -/
def riseP (es : List Ent) (s : Nat) (by_ : Int) : List Ent := if inBy by_ = true then putP es (s, askL withinB es s + by_) else es
def riseB (es : List Ent) (s : Nat) (by_ : Int) : Bool := inBy by_ && risesP es (s, askL withinB es s + by_)
def riseV (es : List Ent) (s : Nat) (by_ : Int) : Int := if riseB es s by_ = true then askL withinB es s + by_ else 0
set_option maxRecDepth 100000 in
set_option maxHeartbeats 4000000 in
theorem rise_any {b : Nat} {sv : Value} {es : List Ent} (s : Nat) (by_ : Int) (w : World) (h : PS w b sv es) (hs : okS s) (hlen : es.length ≤ 1048570) :
    Calls Try.prog 25 #[.pointer (some ⟨b, 0, none⟩), .int .u64 (s : Nat), .int .i64 by_] w fun o w' => o = .returned (.tuple #[.int .i64 (riseV es s by_), .bool (riseB es s by_)]) ∧ (∃ sv', PS w' b sv' (riseP es s by_)) ∧ But [b] w w' := by
  have HA := Lib.hid (ask_any s w h hs (by omega))
  have hm := ask_most h.tie s
  have hn := askL_nonneg (wi := withinB) es s
  have H := Lib.hid h
  by_cases h1 : by_ < 1
  · have hd : decide (by_ < 1) = true := decide_eq_true h1
    have hi : inBy by_ = false := by unfold inBy; rw [decide_eq_false (by omega : ¬ 1 ≤ by_)]; rfl
    have HV : Hid (riseV es s by_ = 0 ∧ riseB es s by_ = false ∧ riseP es s by_ = es) := Lib.hid (by unfold riseV riseB riseP; rw [hi]; simp)
    clear h hi
    go_enter Try.func25, Try.ntmps25
    go_wp2_with fail
    go_ret2
    exact ⟨by rw [HV.out.1, HV.out.2.1]; rfl, ⟨sv, by rw [HV.out.2.2]; exact H.out⟩, But.refl _ _⟩
  · have hd : decide (by_ < 1) = false := decide_eq_false h1
    by_cases h2 : 1099511627776 < by_
    · have hd2 : decide (1099511627776 < by_) = true := decide_eq_true h2
      have hi : inBy by_ = false := by unfold inBy; rw [decide_eq_false (by omega : ¬ by_ ≤ 1099511627776), Bool.and_false]
      have HV : Hid (riseV es s by_ = 0 ∧ riseB es s by_ = false ∧ riseP es s by_ = es) := Lib.hid (by unfold riseV riseB riseP; rw [hi]; simp)
      clear h hi
      go_enter Try.func25, Try.ntmps25
      go_wp2_with fail
      go_ret2
      exact ⟨by rw [HV.out.1, HV.out.2.1]; rfl, ⟨sv, by rw [HV.out.2.2]; exact H.out⟩, But.refl _ _⟩
    · have hd2 : decide (1099511627776 < by_) = false := decide_eq_false h2
      have hi : inBy by_ = true := by unfold inBy; rw [decide_eq_true (by omega : by_ ≤ 1099511627776), decide_eq_true (by omega : 1 ≤ by_)]; rfl
      have HV : Hid (riseB es s by_ = risesP es (s, askL withinB es s + by_) ∧ riseP es s by_ = putP es (s, askL withinB es s + by_)) := Lib.hid (by unfold riseB riseP; rw [hi]; simp)
      have HP := Lib.hid (fun (W : World) (hW : PS W b sv es) => put_any (s, askL withinB es s + by_) W hW hs hlen)
      simp only at HP
      have hq : riseV es s by_ = if riseB es s by_ = true then askL withinB es s + by_ else 0 := rfl
      rw [HV.out.1] at hq
      have HQ := Lib.hid hq
      obtain ⟨av, hav⟩ : ∃ av, askL withinB es s = av := ⟨_, rfl⟩
      rw [hav] at HA HP hm hn HQ HV
      have hw1 : IntKind.i64.wrap (av + by_) = av + by_ := by rw [IntKind.wrap_i64]; omega
      clear h hi hav hq
      cases hr : risesP es (s, av + by_) with
      | true =>
        rw [hr] at HP HV HQ
        rw [if_pos rfl] at HQ
        go_enter Try.func25, Try.ntmps25
        go_wp2_with fail
        refine HA.out.mono ?_
        rintro o w1 ⟨rfl, hb⟩
        have HB := Lib.hid hb
        clear hb
        go_wp2_with fail
        refine (HP.out w1 (H.out.below HB.out)).mono ?_
        rintro o w2 ⟨rfl, sv', hps, hb2⟩
        have HPS := Lib.hid hps
        have HB2 := Lib.hid hb2
        clear hps hb2
        go_wp2_with fail
        go_ret2
        exact ⟨by rw [HV.out.1, HQ.out]; rfl, ⟨sv', by rw [HV.out.2]; exact HPS.out⟩, (But.of_below (own := [b]) HB.out).trans' HB2.out⟩
      | false =>
        rw [hr] at HP HV HQ
        rw [if_neg (by decide)] at HQ
        go_enter Try.func25, Try.ntmps25
        go_wp2_with fail
        refine HA.out.mono ?_
        rintro o w1 ⟨rfl, hb⟩
        have HB := Lib.hid hb
        clear hb
        go_wp2_with fail
        refine (HP.out w1 (H.out.below HB.out)).mono ?_
        rintro o w2 ⟨rfl, sv', hps, hb2⟩
        have HPS := Lib.hid hps
        have HB2 := Lib.hid hb2
        clear hps hb2
        go_wp2_with fail
        go_ret2
        exact ⟨by rw [HV.out.1, HQ.out]; rfl, ⟨sv', by rw [HV.out.2]; exact HPS.out⟩, (But.of_below (own := [b]) HB.out).trans' HB2.out⟩
set_option maxRecDepth 100000 in
set_option maxHeartbeats 4000000 in
theorem same_any {b b2 : Nat} {sv sv2 : Value} {es es2 : List Ent} (w : World) (h : PS w b sv es) (h2 : PS w b2 sv2 es2) (hlen : es.length ≤ 1048576) (hlen2 : es2.length ≤ 1048576) :
    Calls Try.prog 20 #[.pointer (some ⟨b, 0, none⟩), .pointer (some ⟨b2, 0, none⟩)] w fun o w' => o = .returned (.bool (decide (es = es2))) ∧ Below w.heap.size w w' := by
  obtain ⟨a, c, rfl⟩ := h.form
  obtain ⟨a2, c2, rfl⟩ := h2.form
  have c0 := fun p => BelW.cell (w := w) (a := ⟨b, 0, none⟩) h.lt h.cell p
  have HE := Lib.hid (fun (p : BelW w) => entriesOf_any p.W (h2.below p.h))
  have HS := Lib.hid (fun (p : BelW w) => slEqual_any a a2 es.length es2.length c c2 es es2 (by omega) (by omega) p.W (h.below p.h).row (h2.below p.h).row)
  obtain ⟨r, hr⟩ : ∃ r, decide (es = es2) = r := ⟨_, rfl⟩
  rw [hr] at HS ⊢
  clear h h2 hr
  go_enter Try.func20, Try.ntmps20
  go_upto_region 1 with fail
  refine wp_region_bel (by kernel_rfl) (by kernel_rfl) ?_
  repeat (quiet_step (first | (go_at_call 35; exact Calls.same_of (HE.out _)) | (go_at_call 34; exact Calls.bel_of (HS.out _))))
  refine wpQuiet_nil ?_
  rintro W3 ⟨p, rfl⟩
  have HF := Lib.hid p.h
  clear c0
  go_wp2
  go_ret
  exact ⟨rfl, HF.out⟩
end Go.Proofs.Ytpcbdjdmhemjdaa
