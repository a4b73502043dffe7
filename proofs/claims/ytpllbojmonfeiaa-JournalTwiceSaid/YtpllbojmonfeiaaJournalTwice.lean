/- For whatever capacity and bytes law JournalTwice answers true: what is opened twice is the same as once, and the second time turns no byte. No condition. -/
import Derived.Test.YtpllbojmonfeiaaJrnAl
import Derived.Test.YtpllbojmonfeiaaDevH
import Derived.Test.YtpllbojmonfeiaaOpen
namespace Go.Proofs.Ytpllbojmonfeiaa.journalTwice
open Go.ChangeShapes Go.WideShapes Go.ChangeAt Go.RowKit Go.Proofs.Ytpllbojmonfeiaa Go.Proofs.Ytpllbojmonfeiaa.SumM
set_option linter.unusedVariables false
attribute [local go_sem] Oper.semAt_some

set_option maxRecDepth 100000 in
set_option maxHeartbeats 2000000 in
theorem walk (w : World) (a0 : Int) (w0 : (Lit.int .i64 a0).wf = true) (p1 : Option Addr) (n1 c1 : Nat) (l1 : List Nat) (S1 : Sl encY w.heap.size w (.slice p1 n1 c1) l1) (b1 : ∀ x ∈ l1, x < 256) (p2 : Option Addr) (n2 c2 : Nat) (l2 : List Nat) (S2 : Sl encY w.heap.size w (.slice p2 n2 c2) l2) (b2 : ∀ x ∈ l2, x < 256) :
    Calls Try.prog 3 #[.int .i64 a0, .slice p1 n1 c1, .slice p2 n2 c2] w fun e w' => e = .returned (.bool true) ∧ Below w.heap.size w w' := by
  obtain rfl := S1.len
  obtain rfl := S2.len
  have HS1 := Lib.hid S1
  have HS2 := Lib.hid S2
  have H1 := Lib.hid b1
  have H2 := Lib.hid b2
  have HA1 := Lib.hid (fun own h => off_arg (own := own) S1 h)
  clear S1 S2 b1 b2
  obtain ⟨p, hp⟩ : ∃ p, l1.length = p := ⟨_, rfl⟩
  obtain ⟨q, hq⟩ : ∃ q, l2.length = q := ⟨_, rfl⟩
  have HP := Lib.hid hp
  have HQ := Lib.hid hq
  rw [hp] at HS1 ⊢
  rw [hq] at HS2 ⊢
  clear hp hq HA1
  by_cases g0 : (p : Int) > 3000
  · go_enter Try.func3, Try.ntmps3
    go_wp2_with fail
    refine (jAlive_any _).mono ?_
    rintro e wa ⟨rfl, hba⟩
    go_wp2
    go_ret
    exact ⟨rfl, hba⟩
  · by_cases g1 : (q : Int) > 3000
    · go_enter Try.func3, Try.ntmps3
      go_wp2_with fail
      refine (jAlive_any _).mono ?_
      rintro e wa ⟨rfl, hba⟩
      go_wp2
      go_ret
      exact ⟨rfl, hba⟩
    · go_enter Try.func3, Try.ntmps3
      go_wp2_with fail
      refine (jAlive_any _).mono ?_
      rintro e wa ⟨rfl, hba⟩
      have HBA := Lib.hid hba
      have hza := hba.size
      clear hba
      go_wp2_with fail
      refine (new_any a0 wa).mono ?_
      rintro e w1 ⟨rfl, hD1, hb1⟩
      have hb01 : Below w.heap.size w w1 := HBA.out.trans (hb1.mono hza)
      have hL1 := Lib.hid (load_any 0 p1 p c1 l1 ⟨by rw [HP.out]; omega, H1.out⟩ w1 hD1 ((HS1.out.below hb01).mono hb01.size))
      have HB01 := Lib.hid hb01
      have hz1 := hb01.size
      clear hb01 hb1 hD1
      go_wp2_with fail
      refine hL1.out.mono ?_
      rintro e w2 ⟨rfl, own2, x2, y2, d2, bt2, s2⟩
      have hlo2 : ∀ k ∈ own2, w.heap.size ≤ k := fun k hk => by
        rcases s2 k hk with h | h
        · simp at h; omega
        · omega
      have hb02 : Below w.heap.size w w2 := HB01.out.trans (bt2.below (n := w.heap.size) (fun k hk => by simp at hk; omega) hz1)
      have hL2 := Lib.hid (load_any 1 p2 q c2 l2 ⟨by rw [HQ.out]; omega, H2.out⟩ w2 d2 ((HS2.out.below hb02).mono hb02.size))
      have HB02 := Lib.hid hb02
      have hz2 := hb02.size
      clear bt2 s2 hb02 d2 hL1
      go_wp2_with fail
      refine hL2.out.mono ?_
      rintro e w3 ⟨rfl, own3, x3, y3, d3, bt3, s3⟩
      have hlo3 : ∀ k ∈ own3, w.heap.size ≤ k := fun k hk => by
        rcases s3 k hk with h | h
        · exact hlo2 k h
        · omega
      have hb03 : Below w.heap.size w w3 := HB02.out.trans (bt3.below (n := w.heap.size) hlo2 hz2)
      obtain ⟨D, hD⟩ : ∃ D, loadS (loadS (newD a0) 0 l1) 1 l2 = D := ⟨_, rfl⟩
      rw [hD] at d3
      have hDf : D.down = false ∧ D.left = 9223372036854775807 ∧ D.r0.length ≤ 3000 ∧ D.r1.length ≤ 3000 ∧ D.cap = capN a0 := by
        rw [← hD]
        refine ⟨rfl, rfl, ?_, ?_, rfl⟩
        · show (l1.take _).length ≤ 3000
          rw [List.length_take, HP.out]; omega
        · show (l2.take _).length ≤ 3000
          rw [List.length_take, HQ.out]; omega
      obtain ⟨f1, f2, f3, f4, f5⟩ := hDf
      have HOP := Lib.hid (opened_any w3 d3 f1 (by omega))
      have HB03 := Lib.hid hb03
      have HLO3 := Lib.hid hlo3
      have hz3 := hb03.size
      clear bt3 s3 hb03 hlo3 hlo2 d3 hD hL2
      go_wp2_with fail
      refine HOP.out.mono ?_
      rintro e w4 (⟨D2, r, a, c, f, own4, x4, y4, rfl, _, hJ, d4, hj4, hnot, bt4, s4, _⟩ | ⟨rfl, hc16, own4, x4, y4, d4, bt4, hcp, s4⟩)
      · have hst4 : St w w4 own4 w3.heap.size wa.heap.size D2 r a c f := ⟨⟨x4, y4, d4⟩, hj4, hnot, hJ, lo_more HB03.out HLO3.out s4, hz3, HB03.out.trans (bt4.below HLO3.out hz3)⟩
        have HTU := Lib.hid (turned_any w4 d4.blk)
        have HRO := Lib.hid (reopen_st hst4)
        have hzz := hst4.bel.size
        clear hst4 d4 hj4 hnot hJ bt4 s4 HOP
        go_wp2_with fail
        refine HTU.out.mono ?_
        rintro e w' ⟨rfl, rfl⟩
        go_wp2_with fail
        refine HRO.out.mono ?_
        rintro e w5 ⟨rfl, own5, hst5, bt5, s5, hjo5, hno5⟩
        have hstj : St w w5 own5 w3.heap.size wa.heap.size D2 r a c f := ⟨hst5.dev, hjo5, hno5, hst5.ok, hst5.lo, hz3, hst5.bel⟩
        have HTU2 := Lib.hid (by obtain ⟨x, y, d⟩ := hst5.dev; exact turned_any w5 d.blk : Calls Try.prog 13 #[.pointer (some ⟨wa.heap.size, 0, none⟩)] w5 _)
        have HH1 := Lib.hid (has_st hstj)
        have HSJ := Lib.hid hstj
        have HSK := Lib.hid hst5
        have HFW := Lib.hid (few_of hst5.row)
        obtain ⟨SN, hSN⟩ : ∃ SN, snapL (D2.row (r : Nat)) = SN := ⟨_, rfl⟩
        obtain ⟨RC, hRC⟩ : ∃ RC, recsL (D2.row (r : Nat)) = RC := ⟨_, rfl⟩
        rw [hSN, hRC] at HH1 HFW
        have HSN := Lib.hid hSN
        have HRC := Lib.hid hRC
        clear hst5 hstj bt5 s5 hjo5 hno5 hSN hRC HTU HRO
        go_wp2_with fail
        refine HTU2.out.mono ?_
        rintro e w' ⟨rfl, rfl⟩
        go_wp2_with fail
        refine HH1.out.mono ?_
        rintro e w6 ⟨sv, rv, rfl, hh1, hb6⟩
        have hk6 := HSK.out.below hb6
        have hj6 := HSJ.out.below hb6
        have HH2 := Lib.hid (has_st hk6)
        rw [HSN.out, HRC.out] at HH2
        have HK6 := Lib.hid hk6
        have HJ6 := Lib.hid hj6
        have HX1 := Lib.hid hh1
        clear hh1 hb6 hk6 hj6 HSK HSJ HH1 HTU2
        go_wp2_with fail
        refine HH2.out.mono ?_
        rintro e w7 ⟨sv2, rv2, rfl, hh2, hb7⟩
        have hsm := same_has (HX1.out.below hb7) hh2 HFW.out HFW.out
        rw [decide_eq_true rfl, decide_eq_true rfl, Bool.and_true] at hsm
        have HSM := Lib.hid hsm
        have HK7 := Lib.hid (HK6.out.below hb7)
        have HJ7 := Lib.hid (HJ6.out.below hb7)
        clear hh2 hb7 hsm HK6 HJ6 HX1 HH2
        go_wp2_with fail
        refine HSM.out.mono ?_
        rintro e w8 ⟨rfl, hb8⟩
        have hk8 := HK7.out.below hb8
        have hj8 := HJ7.out.below hb8
        have HAG1 := Lib.hid (age_any w8 hj8.jrn)
        have HAG2 := Lib.hid (age_any w8 hk8.jrn)
        have HR1 := Lib.hid (room_st hj8)
        have HK8 := Lib.hid hk8
        clear hb8 hk8 hj8 HK7 HJ7 HSM
        go_wp2_with fail
        refine HAG1.out.mono ?_
        rintro e w' ⟨rfl, rfl⟩
        go_wp2_with fail
        refine HAG2.out.mono ?_
        rintro e w' ⟨rfl, rfl⟩
        go_wp2_with fail
        refine HR1.out.mono ?_
        rintro e w9 ⟨rfl, hb9⟩
        have hk9 := HK8.out.below hb9
        have HR2 := Lib.hid (room_st hk9)
        have HBW := Lib.hid hk9.bel
        clear hb9 hk9 HK8 HR1
        go_wp2_with fail
        refine HR2.out.mono ?_
        rintro e w10 ⟨rfl, hb10⟩
        have HFIN : Hid (Below w.heap.size w w10) := Lib.hid (HBW.out.trans (hb10.mono HBW.out.size))
        clear hb10
        go_wp2
        go_ret
        exact ⟨by simp, HFIN.out⟩
      · have hcap := capacity_any w4 d4.blk
        rw [hcp] at hcap
        have HCP := Lib.hid hcap
        have HFIN : Hid (Below w.heap.size w w4) := Lib.hid (HB03.out.trans (bt4.below HLO3.out hz3))
        obtain ⟨C, hC⟩ : ∃ C, D.cap = C := ⟨_, rfl⟩
        rw [hC] at HCP hc16
        have hci : (C : Int) < 16 := by omega
        clear d4 bt4 s4 hcap hcp HOP hC f5
        go_wp2_with fail
        refine HCP.out.mono ?_
        rintro e w' ⟨rfl, rfl⟩
        go_wp2
        go_ret
        exact ⟨rfl, HFIN.out⟩


set_option maxRecDepth 100000 in
theorem lifted (os : Os) (started : os.Started) (H : Type) (enc : TypeId × Value → H) :
    ReturnsInHanded {} Try.checked os 3 .any (Rows.journalTwiceSpec.pre6 enc Try.prog Try.f3 Rows.journalTwiceRow.domain false) (Rows.journalTwiceSpec.post enc Try.prog Try.f3 false true false false) := by
  refine returnsInHanded_of_change (C := Try.checked) own started (by kernel_rfl) Try.func3
    (ChangeSpec.witness6 (enc := enc) (C := Try.checked) false ⟨#[], #[.int .i64 0, .slice none 0 0, .slice none 0 0], []⟩ 8 (by kernel_rfl) (by kernel_rfl) (by kernel_rfl) (by kernel_rfl)) ?_
  intro W base args ds gs before hval0 hW hcnd _
  have hval : ∀ (j : Nat) t v, Try.f3.params[j]? = some t → args[j]? = some v → Value.okWide Try.prog W .any base t v := hval0
  have hW' := hW
  obtain ⟨p, q, hA0, hV, rfl, hfz, hnd⟩ := hW
  have hA : DataW.TrodAll enc Try.prog W 0 (fun _ => true) true Try.f3.params.toList args.toList ds p := hA0
  rw [Try.params3] at hA hval
  have hAk := hA
  obtain ⟨v0, vs0, d0, ds0, p0', q0, hargs, rfl, rfl, h0, r0⟩ := trodAll_cons hA
  obtain ⟨v1, vs1, d1, ds1, p1', q1, rfl, rfl, rfl, h1, r1⟩ := trodAll_cons r0
  obtain ⟨v2, vs2, d2, ds2, p2', q2, rfl, rfl, rfl, h2, r2⟩ := trodAll_cons r1
  obtain ⟨rfl, rfl, rfl⟩ := trodAll_nil r2
  obtain rfl : args = #[v0, v1, v2] := by cases args; simp_all
  obtain ⟨rfl, rfl⟩ := trodVars_none hV
  simp only [List.append_nil] at hW' hAk
  have hlt := fun x hx => hW'.lt x hx
  clear hA0 hval0
  obtain ⟨a0, rfl, rfl, rfl, w0⟩ := open_int Try.underlying3 (hval 0 3 v0 rfl rfl) h0
  obtain ⟨p1, n1, c1, l1, rfl, S1, b1⟩ := open_bytes (okWide_slice Try.underlying22 (hval 1 22 v1 rfl rfl)) h1
  obtain ⟨p2, n2, c2, l2, rfl, S2, b2⟩ := open_bytes (okWide_slice Try.underlying22 (hval 2 22 v2 rfl rfl)) h2
  refine (walk W a0 w0 p1 n1 c1 l1 S1 b1 p2 n2 c2 l2 S2 b2).mono fun e W' ⟨he, hg⟩ => ?_
  subst he
  have hargs := trodAll_below hg _ _ _ _ (by intro t ht; simp only [List.mem_cons, List.not_mem_nil, or_false] at ht; revert t; rintro t (rfl | rfl | rfl) <;> exact ⟨by kernel_rfl, of_decide_eq_true (by kernel_rfl)⟩) hAk (fun x hx => by simpa using hlt x hx)
  exact ⟨_, rfl, _, _, _, [], _, [], hW', (trodAll_cons_mk (shut_bool Try.underlying4 _) trodAll_mk0), hargs, rfl, hg.frame _, fun h => by cases h⟩

theorem over : Rows.journalTwiceRow.holds Try.pinned (OpenSpec.ofChange Rows.journalTwiceSpec) :=
  OpenClaim.holds_of_wide 3 Try.f3 rfl rfl rfl rfl rfl rfl rfl ⟨rfl, rfl, rfl, rfl, rfl⟩ rfl rfl rfl rfl rfl (by kernel_rfl) Try.func3 (by kernel_rfl)
    (of_decide_eq_true (by kernel_rfl)) (by unfold Func.isWrapper; first | (rw [if_pos (by decide +kernel)]; kernel_rfl) | (rw [if_neg (by decide +kernel)]; exact ⟨rfl, rfl⟩))
    (fun os started H enc _ => lifted os started H enc)

theorem proved : Rows.JournalTwiceSaid :=
  over
end Go.Proofs.Ytpllbojmonfeiaa.journalTwice
