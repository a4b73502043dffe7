/- The statement's example of a table. -/
import Derived.Test.YtchnjafcnigllaaTabSQ
namespace Go.Proofs.Ytchnjafcnigllaa
open Go.RowKit
set_option linter.unusedVariables false
attribute [local go_sem] Oper.semAt_some eqSeq8

theorem alive1_any (k v : Int) (hk : k = 1 ∨ k = 2 ∨ k = 3) (w : World) : Calls Try.prog 41 #[.int .i64 k, .int .i64 v] w fun e w' => e = .returned (.string (Utf8.encode (97 + k).toNat)) ∧ w' = w := by
  rcases hk with rfl | rfl | rfl
  all_goals go_enter Try.func41, Try.ntmps41
  all_goals go_wp2
  all_goals go_ret
  all_goals exact ⟨rfl, rfl⟩
def l3 : KV := [(1, 10), (2, 21), (3, 30)]
set_option maxRecDepth 100000 in
set_option maxHeartbeats 16000000 in
theorem tabAlive_any (w : World) : Calls Try.prog 9 #[] w fun e w' => e = .returned (.bool true) ∧ Below w.heap.size w w' := by
  go_enter Try.func9, Try.ntmps9
  go_upto_region 2 with fail
  obtain ⟨w1, hw1⟩ : ∃ w1, w.alloc (Obj.cells #[.pointer none] 73) = w1 := ⟨_, rfl⟩
  have hT1 : TabN w1 w.heap.size [] := ⟨⟨.nil, none, by rw [← hw1]; exact World.alloc_heap_new w _, rfl, rfl⟩, List.Pairwise.nil⟩
  have hB1 : Below w.heap.size w w1 := by rw [← hw1]; exact (Below.refl _ _).alloc (Nat.le_refl _) _
  rw [hw1]
  have HP1 : Hid (Calls Try.prog 25 #[.pointer (some ⟨w.heap.size, 0, none⟩), .int .i64 3, .int .i64 30] w1 fun e w' => e = .returned (.bool true) ∧ TabN w' w.heap.size [(3, 30)] ∧ But [w.heap.size] w1 w') := Lib.hid (tablePutN 3 30 _ _ _ hT1 (by decide))
  have B1 := Lib.hid hB1
  clear hw1 hT1 hB1
  go_wp2_with fail
  refine HP1.out.mono ?_
  rintro e w2 ⟨rfl, h2, b2⟩
  have HP2 : Hid (Calls Try.prog 25 #[.pointer (some ⟨w.heap.size, 0, none⟩), .int .i64 1, .int .i64 10] w2 fun e w' => e = .returned (.bool true) ∧ TabN w' w.heap.size [(1, 10), (3, 30)] ∧ But [w.heap.size] w2 w') := Lib.hid (tablePutN 1 10 _ _ _ h2 (by decide))
  have B2 := Lib.hid (B1.out.trans (b2.below (fun k hk => by simp at hk; omega) B1.out.size))
  clear h2 b2 HP1 B1
  go_wp2_with fail
  refine HP2.out.mono ?_
  rintro e w3 ⟨rfl, h3, b3⟩
  have HP3 : Hid (Calls Try.prog 25 #[.pointer (some ⟨w.heap.size, 0, none⟩), .int .i64 2, .int .i64 20] w3 fun e w' => e = .returned (.bool true) ∧ TabN w' w.heap.size [(1, 10), (2, 20), (3, 30)] ∧ But [w.heap.size] w3 w') := Lib.hid (tablePutN 2 20 _ _ _ h3 (by decide))
  have B3 := Lib.hid (B2.out.trans (b3.below (fun k hk => by simp at hk; omega) B2.out.size))
  clear h3 b3 HP2 B2
  go_wp2_with fail
  refine HP3.out.mono ?_
  rintro e w4 ⟨rfl, h4, b4⟩
  have HP4 : Hid (Calls Try.prog 25 #[.pointer (some ⟨w.heap.size, 0, none⟩), .int .i64 2, .int .i64 21] w4 fun e w' => e = .returned (.bool false) ∧ TabN w' w.heap.size l3 ∧ But [w.heap.size] w4 w') := Lib.hid (tablePutN 2 21 _ _ _ h4 (by decide))
  have B4 := Lib.hid (B3.out.trans (b4.below (fun k hk => by simp at hk; omega) B3.out.size))
  clear h4 b4 HP3 B3
  go_wp2_with fail
  refine HP4.out.mono ?_
  rintro e w5 ⟨rfl, h5, b5⟩
  have B5 := Lib.hid (B4.out.trans (b5.below (fun k hk => by simp at hk; omega) B4.out.size))
  have HA := Lib.hid (allN w.heap.size w5)
  have H5 := Lib.hid h5
  clear h5 b5 HP4 B4
  go_wp2_with fail
  refine HA.out.mono ?_
  rintro e w6 ⟨rfl, hw6⟩
  have hb6 : Below w5.heap.size w5 w6 := by rw [hw6]; exact (Below.refl _ _).alloc (Nat.le_refl _) _
  have h6 := H5.out.below hb6
  have HP6 : Hid (Calls Try.prog 13 #[.func (.func 45) #[] #[.pointer (some ⟨w5.heap.size, 0, none⟩)], .int .i64 9] w6 fun e w' => ∃ v, e = .returned v ∧ w'.ownsRow w6.heap.size 41 2 v 3 (flatVP l3) ∧ Below w6.heap.size w6 w') := Lib.hid (pairsAll w5.heap.size w.heap.size l3 9 (by decide) (by decide) w6 h6 (by rw [hw6]; exact World.alloc_heap_new w5 _))
  have B6 := Lib.hid (B5.out.trans (hb6.mono B5.out.size))
  have H6 := Lib.hid h6
  clear hw6 hb6 h6 HA B5 H5
  go_wp2_with fail
  refine HP6.out.mono ?_
  rintro e w7 ⟨v, rfl, hrow, hb7⟩
  obtain ⟨va, vc, rfl⟩ := own_form hrow
  have hprs := PrsP.of_owns (xs := l3) hrow
  have h7 := H6.out.below hb7
  have HBL : Hid (Calls Try.prog 19 #[.pointer (some ⟨w.heap.size, 0, none⟩), .int .i64 3] w7 fun e w' => e = .returned (.tuple #[.int .i64 2, .bool true]) ∧ ∃ n, w' = w7.drewN n) := Lib.hid (tableBelowN 3 _ _ _ h7)
  have HPR := Lib.hid hprs
  have HOFF : Hid (OffP [w.heap.size] (.slice va 3 vc)) := Lib.hid (fun ad n c e hn hk => by
    cases e
    have h1 := (World.ownsRow.lt hrow ad.block rfl).1
    have h2 := H6.out.lt
    simp at hk
    omega)
  have B7 := Lib.hid (B6.out.trans (hb7.mono B6.out.size))
  have H7 := Lib.hid h7
  clear hrow hprs h7 hb7 HP6 B6 H6
  go_wp2_with fail
  refine HBL.out.mono ?_
  rintro e w8 ⟨rfl, n8, hw8⟩
  have hb8 : Below w7.heap.size w7 w8 := by rw [hw8]; exact below_dr w7 n8
  have h8 := H7.out.below hb8
  have HLE : Hid (Calls Try.prog 21 #[.pointer (some ⟨w.heap.size, 0, none⟩)] w8 fun e w' => e = .returned (.tuple #[.int .i64 1, .bool true]) ∧ w' = w8) := Lib.hid (tableLeastN _ _ _ h8)
  have HMO : Hid (Calls Try.prog 22 #[.pointer (some ⟨w.heap.size, 0, none⟩)] w8 fun e w' => e = .returned (.tuple #[.int .i64 3, .bool true]) ∧ w' = w8) := Lib.hid (tableMostN _ _ _ h8)
  have HBA := Lib.hid (backN w.heap.size w8)
  have HPR8 := Lib.hid ((HPR.out.below hb8 (Nat.le_refl _)).mono hb8.size)
  have B8 := Lib.hid (B7.out.trans (hb8.mono B7.out.size))
  have H8 := Lib.hid h8
  clear hw8 hb8 h8 HBL HPR B7 H7
  go_wp2_with fail
  refine HLE.out.mono ?_
  rintro e w8x ⟨rfl, hx⟩
  obtain rfl := hx.symm
  go_wp2_with fail
  refine HMO.out.mono ?_
  rintro e w8x ⟨rfl, hx⟩
  obtain rfl := hx.symm
  go_wp2_with fail
  refine HBA.out.mono ?_
  rintro e w9 ⟨rfl, hw9⟩
  have hb9 : Below w8.heap.size w8 w9 := by rw [hw9]; exact (Below.refl _ _).alloc (Nat.le_refl _) _
  have h9 := H8.out.below hb9
  have HOF : Hid (Calls Try.prog 24 #[.func (.func 47) #[] #[.pointer (some ⟨w8.heap.size, 0, none⟩)]] w9 fun e w' => e = .returned (.pointer (some ⟨w9.heap.size, 0, none⟩)) ∧ TabN w' w9.heap.size l3 ∧ Below w9.heap.size w9 w') := Lib.hid (ofBack w8.heap.size w.heap.size l3 (by decide) w9 h9 (by rw [hw9]; exact World.alloc_heap_new w8 _))
  have HPR9 := Lib.hid ((HPR8.out.below hb9 (Nat.le_refl _)).mono hb9.size)
  have B9 := Lib.hid (B8.out.trans (hb9.mono B8.out.size))
  have H9 := Lib.hid h9
  clear hw9 hb9 h9 HPR8 B8 H8 HLE HMO HBA
  go_wp2_with fail
  refine HOF.out.mono ?_
  rintro e w10 ⟨rfl, hu, hb10⟩
  have h10 := H9.out.below hb10
  have HLU : Hid (Calls Try.prog 28 #[.pointer (some ⟨w9.heap.size, 0, none⟩)] w10 fun e w' => e = .returned (.int .i64 3) ∧ w' = w10) := Lib.hid (tableLenN _ _ _ hu)
  have HMP := Lib.hid (TS.map_any 41 #[] (fun x => Utf8.encode (97 + x.1).toNat) w.heap.size l3 (by decide) w10 h10 (enters_of Try.func41 (by kernel_rfl) rfl) (fun x hx W _ => alive1_any x.1 x.2 (by unfold l3 at hx; simp at hx; rcases hx with rfl | rfl | rfl <;> simp) W))
  have HPR10 := Lib.hid ((HPR9.out.below hb10 (Nat.le_refl _)).mono hb10.size)
  have B10 := Lib.hid (B9.out.trans (hb10.mono B9.out.size))
  have H10 := Lib.hid h10
  clear hu hb10 h10 HOF HPR9 B9 H9
  go_wp2_with fail
  refine HLU.out.mono ?_
  rintro e w10x ⟨rfl, hx⟩
  obtain rfl := hx.symm
  go_wp2_with fail
  refine HMP.out.mono ?_
  rintro e w11 ⟨rfl, hm, hb11⟩
  have h11 := H10.out.below hb11
  have HGE : Hid (Calls Try.prog 42 #[.pointer (some ⟨w10.heap.size + 1, 0, none⟩), .int .i64 2] w11 fun e w' => e = .returned (.tuple #[.string ⟨#[99]⟩, .bool true]) ∧ ∃ n, w' = w11.drewN n) := Lib.hid (TS.tableGetN 2 _ _ _ hm)
  have HPR11 := Lib.hid ((HPR10.out.below hb11 (Nat.le_refl _)).mono hb11.size)
  have B11 := Lib.hid (B10.out.trans (hb11.mono B10.out.size))
  have H11 := Lib.hid h11
  clear hm hb11 h11 HLU HMP HPR10 B10 H10
  go_wp2_with fail
  refine HGE.out.mono ?_
  rintro e w12 ⟨rfl, n12, hw12⟩
  have hb12 : Below w11.heap.size w11 w12 := by rw [hw12]; exact below_dr w11 n12
  have h12 := H11.out.below hb12
  have HCL := Lib.hid (tableCloneN _ _ _ h12)
  have HPR12 := Lib.hid ((HPR11.out.below hb12 (Nat.le_refl _)).mono hb12.size)
  have B12 := Lib.hid (B11.out.trans (hb12.mono B11.out.size))
  have H12 := Lib.hid h12
  clear hw12 hb12 h12 HGE HPR11 B11 H11
  go_wp2_with fail
  refine HCL.out.mono ?_
  rintro e w13 ⟨rfl, hc, hb13⟩
  have h13 := H12.out.below hb13
  have HDR : Hid (Calls Try.prog 26 #[.pointer (some ⟨w.heap.size, 0, none⟩), .int .i64 2] w13 fun e w' => e = .returned (.bool true) ∧ TabN w' w.heap.size [(1, 10), (3, 30)] ∧ But [w.heap.size] w13 w') := Lib.hid (tableDropN 2 _ _ _ h13 (by decide))
  have HPR13 := Lib.hid ((HPR12.out.below hb13 (Nat.le_refl _)).mono hb13.size)
  have HC := Lib.hid hc
  have HZ : Hid (w.heap.size < w12.heap.size) := Lib.hid H12.out.lt
  have HN13 := Lib.hid h13.noNode
  have B13 := Lib.hid (B12.out.trans (hb13.mono B12.out.size))
  clear hc hb13 h13 HCL HPR12 B12 H12
  go_wp2_with fail
  refine HDR.out.mono ?_
  rintro e w14 ⟨rfl, h14, b14⟩
  have hc14 := HC.out.stay (StayN.of_but b14 (fun k hk => by simp at hk; subst hk; exact HN13.out)) (b14.block _ HC.out.lt (by have := HZ.out; simp; omega))
  have HGC : Hid (Calls Try.prog 43 #[.pointer (some ⟨w12.heap.size, 0, none⟩), .int .i64 2] w14 fun e w' => e = .returned (.tuple #[.int .i64 21, .bool true]) ∧ ∃ n, w' = w14.drewN n) := Lib.hid (tableGetN 2 _ _ _ hc14)
  have HPR14 := Lib.hid ((HPR13.out.but b14 HOFF.out (Nat.le_refl _)).mono b14.size)
  have B14 := Lib.hid (B13.out.trans (b14.below (fun k hk => by simp at hk; omega) B13.out.size))
  have H14 := Lib.hid h14
  have HC14 := Lib.hid hc14
  clear h14 b14 hc14 HDR HPR13 B13 HC HN13
  go_wp2_with fail
  refine HGC.out.mono ?_
  rintro e w15 ⟨rfl, n15, hw15⟩
  have hb15 : Below w14.heap.size w14 w15 := by rw [hw15]; exact below_dr w14 n15
  have h15 := H14.out.below hb15
  have HCR := Lib.hid (tableClearN _ _ _ h15)
  have HPR15 := Lib.hid ((HPR14.out.below hb15 (Nat.le_refl _)).mono hb15.size)
  have B15 := Lib.hid (B14.out.trans (hb15.mono B14.out.size))
  have HC15 := Lib.hid (HC14.out.below hb15)
  have HN15 := Lib.hid h15.noNode
  clear hw15 hb15 h15 HGC HPR14 B14 H14 HC14
  go_wp2_with fail
  refine HCR.out.mono ?_
  rintro e w16 ⟨rfl, h16, b16⟩
  have hc16 := HC15.out.stay (StayN.of_but b16 (fun k hk => by simp at hk; subst hk; exact HN15.out)) (b16.block _ HC15.out.lt (by have := HZ.out; simp; omega))
  have hpr16 := (HPR15.out.but b16 HOFF.out (Nat.le_refl _)).mono b16.size
  have HLT : Hid (Calls Try.prog 28 #[.pointer (some ⟨w.heap.size, 0, none⟩)] w16 fun e w' => e = .returned (.int .i64 0) ∧ w' = w16) := Lib.hid (tableLenN _ _ _ h16)
  have HFR := Lib.hid (fromOfN w12.heap.size 2 w16)
  have HC16 := Lib.hid hc16
  have B16 := Lib.hid (B15.out.trans (b16.below (fun k hk => by simp at hk; omega) B15.out.size))
  obtain ⟨gp, off, rfl, _, d0, d1⟩ := hpr16.at_ (k := 2) (x := (3, 30)) rfl
  simp only at d0 d1
  clear h16 b16 hc16 hpr16 HCR HPR15 B15 HC15 HN15 d0 HOFF
  go_wp2_with fail
  refine HLT.out.mono ?_
  rintro e w16x ⟨rfl, hx⟩
  obtain rfl := hx.symm
  go_wp2_with fail
  refine HFR.out.mono ?_
  rintro e w17 ⟨rfl, hw17⟩
  have hb17 : Below w16.heap.size w16 w17 := by rw [hw17]; exact ((Below.refl _ _).alloc (Nat.le_refl _) _).alloc (by simp) _
  have e17 : (w16.alloc (.cells #[.pointer (some ⟨w12.heap.size, 0, none⟩)] 24)).heap.size = w16.heap.size + 1 := by simp
  have HPF : Hid (Calls Try.prog 13 #[.func (.func 48) #[] #[.pointer (some ⟨w16.heap.size, 0, none⟩), .pointer (some ⟨w16.heap.size + 1, 0, none⟩)], .int .i64 9] w17 fun e w' => ∃ v, e = .returned v ∧ w'.ownsRow w17.heap.size 41 2 v 2 (flatVP [(2, 21), (3, 30)]) ∧ Below w17.heap.size w17 w') :=
    Lib.hid (pairsFrom w16.heap.size (w16.heap.size + 1) w12.heap.size 2 l3 9 (by decide) (by decide) w17 (HC16.out.below hb17) (by rw [hw17]; exact (heap_alloc_old' _ _ _ (by simp)).trans (World.alloc_heap_new w16 _))
      (by rw [hw17]; have h := World.alloc_heap_new (w16.alloc (.cells #[.pointer (some ⟨w12.heap.size, 0, none⟩)] 24)) (.cells #[.int .i64 2] 2); rw [e17] at h; exact h))
  have B17 := Lib.hid (B16.out.trans (hb17.mono B16.out.size))
  clear hw17 hb17 e17 HFR HLT HC16 B16
  go_wp2_with fail
  refine HPF.out.mono ?_
  rintro e w18 ⟨v18, rfl, hr18, hb18⟩
  obtain ⟨a18, c18, rfl⟩ := own_form hr18
  have B18 := Lib.hid (B17.out.trans (hb18.mono B17.out.size))
  clear hr18 hb18 HPF B17
  go_wp2
  go_ret
  exact ⟨rfl, B18.out⟩
end Go.Proofs.Ytchnjafcnigllaa
