/- Rows of puts and rises: the store's beside the document's. Written by tools/gen_pripl.py. -/
import Derived.Test.YtpcbdjdmhemjdaaPriW
import Derived.Test.YtpcbdjdmhemjdaaOpenEn
import Derived.OwnWalk
namespace Go.Proofs.Ytpcbdjdmhemjdaa
open Go.RowKit
set_option linter.unusedVariables false
attribute [local go_sem] Oper.semAt_some

theorem rise_len (es : List Ent) (s : Nat) (b : Int) : (riseP es s b).length ≤ es.length + 1 := by
  unfold riseP
  split
  · exact put_len _ _
  · omega
/-- What stays between two rounds: the store beside the document's entries. -/
structure PlS (w wr : World) (pb : Nat) (sv xv : Value) (acc : List Ent) : Prop where
  ps : PS wr pb sv acc
  ens : EnsP wr.heap.size wr xv acc
  bel : Below w.heap.size w wr
theorem PlS.below {w wr W : World} {pb : Nat} {sv xv : Value} {acc : List Ent} (h : PlS w wr pb sv xv acc) (hb : Below wr.heap.size wr W) : PlS w W pb sv xv acc :=
  ⟨h.ps.below hb, (h.ens.below hb (Nat.le_refl _)).mono hb.size, h.bel.trans (hb.mono h.bel.size)⟩
theorem PlS.off {w wr : World} {pb : Nat} {sv xv : Value} {acc : List Ent} (h : PlS w wr pb sv xv acc) : OffE [pb] xv := by
  obtain ⟨a, c, e⟩ := h.ps.form
  have hb := h.ps.blk
  rw [e] at hb
  exact off_box h.ens hb
theorem PlS.ok {w wr : World} {pb : Nat} {sv xv : Value} {acc : List Ent} (h : PlS w wr pb sv xv acc) : ∀ x ∈ acc, okS x.1 := fun x hx => (h.ps.tie.right x hx).1
set_option maxRecDepth 100000 in
set_option maxHeartbeats 16000000 in
theorem play_any (p0 p1 : Option Addr) (n0 c0 n1 c1 : Nat) (l0 : List Ent) (l1 : List Nat) (by_ : Int) (w : World) (S0 : EnsP w.heap.size w (.slice p0 n0 c0) l0) (S1 : SetP w.heap.size w (.slice p1 n1 c1) l1) (hok0 : ∀ x ∈ l0, okS x.1) (hok1 : ∀ x ∈ l1, okS x) (hn0 : n0 ≤ 60) (hn1 : n1 ≤ 60) :
    Calls Try.prog 9 #[.slice p0 n0 c0, .slice p1 n1 c1, .int .i64 by_] w fun o w' => ∃ pb sv xa xn xc acc, o = .returned (.tuple #[.pointer (some ⟨pb, 0, none⟩), .slice xa xn xc, .bool true]) ∧ w.heap.size ≤ pb ∧ PlS w w' pb sv (.slice xa xn xc) acc ∧ acc.length ≤ 240 := by
  have hl0 := S0.len
  have hl1 := S1.len
  have HN0 := Lib.hid hl0.symm
  have HN1 := Lib.hid hl1.symm
  have HZ0 := Lib.hid S0
  have HZ1 := Lib.hid S1
  have HOK0 := Lib.hid hok0
  have HOK1 := Lib.hid hok1
  clear S0 S1 hok0 hok1 hl0 hl1
  go_enter Try.func9, Try.ntmps9
  go_wp2
  obtain ⟨w1, hw1⟩ : ∃ x, w.alloc (.cells #[.slice none 0 0] 39) = x := ⟨_, rfl⟩
  have hnew : w1.heap[w.heap.size]? = some (.cells #[.slice none 0 0] 39) := by rw [← hw1]; exact World.alloc_heap_new w _
  have hb01 : Below w.heap.size w w1 := by rw [← hw1]; exact (Below.refl _ _).alloc (Nat.le_refl _) _
  obtain ⟨w2, hw2⟩ : ∃ x, w1.alloc (.cells #[] 41) = x := ⟨_, rfl⟩
  have hb12 : Below w1.heap.size w1 w2 := by rw [← hw2]; exact (Below.refl _ _).alloc (Nat.le_refl _) _
  have h2 : PlS w w2 w.heap.size (.slice none 0 0) (.slice (some ⟨w1.heap.size, 0, none⟩) 0 0) [] := ⟨(⟨hnew, .inl ⟨rfl, _, _, rfl⟩, (fun _ _ _ => rfl), tight_nil⟩ : PS w1 w.heap.size (.slice none 0 0) []).below hb12, .inl ⟨rfl, _, _, rfl⟩, hb01.trans (hb12.mono hb01.size)⟩
  have H2 := Lib.hid h2
  obtain ⟨pb, hpb⟩ : ∃ pb, w.heap.size = pb := ⟨_, rfl⟩
  have HPB := Lib.hid hpb
  have hz1 : w1.heap.size = pb + 1 := by rw [← hpb, ← hw1]; simp
  rw [hpb] at H2
  rw [hz1] at H2
  rw [hpb]
  try rw [hw1]
  try rw [hw2]
  clear hnew hb01 hb12 h2 hz1 hw1 hw2 hpb
  go_loopw [10, 11] (fun v i wr => ∃ (m : Nat) (xa : Option Addr) (xn xc : Nat) (sv : Value) (acc : List Ent), v = .slice xa xn xc ∧ i = .int .i64 m ∧ m ≤ 60 ∧ (m ≤ n0 ∨ m ≤ n1) ∧ acc.length ≤ 2 * m ∧ PlS w wr pb sv (.slice xa xn xc) acc) (fun _ i _ => 60 - (intOf i).toNat)
  case atStart => exact ⟨0, _, _, _, _, [], rfl, rfl, Nat.zero_le _, .inl (Nat.zero_le _), Nat.le_refl _, H2.out⟩
  case round =>
    obtain ⟨m, xa, xn, xc, sv, acc, rfl, rfl, hm, hmm, hal, hS⟩ := hrel
    obtain ⟨wo, hwo⟩ : ∃ x, x = wr := ⟨wr, rfl⟩
    subst hwo
    have b1 : (0 : Int) ≤ m := by omega
    have HS := Lib.hid hS
    clear hS
    by_cases hA : m < n0
    · have gA : decide ((m : Int) < (n0 : Int)) = true := decide_eq_true (by omega)
      obtain ⟨⟨k, u⟩, hx⟩ : ∃ x, l0[m]? = some x := ⟨_, List.getElem?_eq_getElem (by rw [HN0.out]; exact hA)⟩
      obtain ⟨g, off, rfl, hg, f0, f1⟩ := HZ0.out.at_ hx
      have hkok : okS k := HOK0.out _ (List.mem_of_getElem? hx)
      have b2 : (m : Int) < n0 := by omega
      have hgp : g ≠ pb := by have := HPB.out; omega
      have HD : Hid (∀ W, But [pb] wo W → W.cell? ⟨g, off + m * 2, none⟩ = some (.int .u64 (k : Nat)) ∧ W.cell? ⟨g, off + m * 2 + 1, none⟩ = some (.int .i64 u)) := Lib.hid (fun W hb => by
        have h1 : W.heap[g]? = w.heap[g]? := (hb.block g (Nat.lt_of_lt_of_le hg HS.out.bel.size) (by simpa using hgp)).trans (HS.out.bel.block g hg)
        exact ⟨(World.cell?_of_block (w := w) (a := ⟨g, off + m * 2, none⟩) h1).trans f0, (World.cell?_of_block (w := w) (a := ⟨g, off + m * 2 + 1, none⟩) h1).trans f1⟩)
      obtain ⟨d0, d1⟩ := HD.out wo.drew (But.refl _ _).drew
      have HPU := Lib.hid (put_any (k, u) wo.drew (HS.out.below (Below.refl _ _).drew).ps hkok (by omega))
      simp only at HPU
      obtain ⟨r1, hr1⟩ : ∃ r, risesP acc (k, u) = r := ⟨_, rfl⟩
      have HR1 := Lib.hid hr1
      rw [hr1] at HPU
      have gr1 : (r1 != r1) = false := by simp
      have hl1 := put_len acc (k, u)
      clear hx f0 f1 hr1
      go_upto_region 7 with fail
      go_region_with (go_at_call 19; refine HPU.out.mono ?_; rintro o y2 ⟨rfl, s2, hp2, hz2⟩; have HP2 := Lib.hid hp2; have HZ2 := Lib.hid ((But.refl [pb] wo).drew.trans' hz2); clear hp2 hz2)
      all_goals (
        clear d0 d1
        obtain ⟨d0, d1⟩ := HD.out y2.drew HZ2.out.drew
        have hE2 : EnsP y2.drew.heap.size y2.drew (.slice xa xn xc) acc := (HS.out.ens.but HZ2.out.drew HS.out.off (Nat.le_refl _)).mono HZ2.out.size
        have HRP := Lib.hid (refPut_any xa xn xc (k, u) acc y2.drew hkok HS.out.ok (by omega) hE2)
        simp only at HRP
        rw [HR1.out] at HRP
        clear hE2
        go_upto_region 8 with fail
        go_region_with (go_at_call 26; refine HRP.out.mono ?_; rintro o y3 ⟨ya, yn, yc, rfl, hE3, hz3⟩; have HE3 := Lib.hid hE3; have HZ3 := Lib.hid ((Below.refl y2.heap.size y2).drew.trans hz3); clear hE3 hz3)
        all_goals (
          have HSA : Hid (PlS w y3 pb s2 (.slice ya yn yc) (putP acc (k, u))) := Lib.hid ⟨HP2.out.below HZ3.out, HE3.out, by
            have h9 : But [pb] w y3 := (But.of_below HS.out.bel).trans' (HZ2.out.trans' (But.of_below HZ3.out))
            exact h9.below (fun j hj => by simp at hj; have := HPB.out; omega) (Nat.le_refl _)⟩
          obtain ⟨ac1, hac1⟩ : ∃ x, putP acc (k, u) = x := ⟨_, rfl⟩
          rw [hac1] at HSA hl1
          clear d0 d1 hac1
          by_cases hBB : m < n1
          · have gB : decide ((m : Int) < (n1 : Int)) = true := decide_eq_true (by omega)
            obtain ⟨s, hs⟩ : ∃ x, l1[m]? = some x := ⟨_, List.getElem?_eq_getElem (by rw [HN1.out]; exact hBB)⟩
            obtain ⟨g1, off1, rfl, hg1, f2⟩ := HZ1.out.at_ hs
            have hsok : okS s := HOK1.out _ (List.mem_of_getElem? hs)
            have b3 : (m : Int) < n1 := by omega
            have hgp1 : g1 ≠ pb := by have := HPB.out; omega
            have HDS : Hid (∀ W, But [pb] y3 W → W.cell? ⟨g1, off1 + m, none⟩ = some (.int .u64 (s : Nat))) := Lib.hid (fun W hb => by
              have h1 : W.heap[g1]? = w.heap[g1]? := (hb.block g1 (Nat.lt_of_lt_of_le hg1 HSA.out.bel.size) (by simpa using hgp1)).trans (HSA.out.bel.block g1 hg1)
              exact (World.cell?_of_block (w := w) (a := ⟨g1, off1 + m, none⟩) h1).trans f2)
            have q0 := HDS.out y3 (But.refl _ _)
            have HRI := Lib.hid (rise_any s by_ y3 HSA.out.ps hsok (by omega))
            have hrl := rise_len ac1 s by_
            clear hs f2
            by_cases h1 : by_ < 1
            · have hd1 : decide (1 ≤ by_) = false := decide_eq_false (by omega)
              have hin : inBy by_ = false := by unfold inBy; rw [hd1]; rfl
              have HRQ : Hid (riseP ac1 s by_ = ac1) := Lib.hid (by unfold riseP; rw [hin]; simp)
              have hv : riseV ac1 s by_ = 0 := by unfold riseV riseB; rw [hin]; simp
              have hbb : riseB ac1 s by_ = false := by unfold riseB; rw [hin]; rfl
              rw [hv, hbb] at HRI
              clear hin hv hbb hrl
              go_wp2_with fail
              refine HRI.out.mono ?_
              rintro o z2 ⟨rfl, ⟨s3, hp3⟩, hz2⟩
              have HP3 := Lib.hid hp3
              have HZ9 := Lib.hid hz2
              have q1 := HDS.out z2 hz2
              have hEz : EnsP z2.heap.size z2 (.slice ya yn yc) ac1 := (HSA.out.ens.but hz2 HSA.out.off (Nat.le_refl _)).mono hz2.size
              have HEZ := Lib.hid hEz
              have hbz : Below w.heap.size w z2 := ((But.of_below HSA.out.bel).trans' hz2 : But [pb] w z2).below (fun j hj => by simp at hj; have := HPB.out; omega) (Nat.le_refl _)
              have HBZ := Lib.hid hbz
              clear hp3 hz2 hEz hbz q0
              go_wp2_with fail
              go_roundw
              case rel => exact ⟨m + 1, ya, yn, yc, _, ac1, rfl, by go_num, by omega, .inr (by omega), by omega, ⟨HRQ.out ▸ HP3.out, HEZ.out, HBZ.out⟩⟩
              case measure => simp [intOf]; omega
            · have hd1 : decide (1 ≤ by_) = true := decide_eq_true (by omega)
              by_cases h2 : 1099511627776 < by_
              · have hd2 : decide (by_ ≤ 1099511627776) = false := decide_eq_false (by omega)
                have hin : inBy by_ = false := by unfold inBy; rw [hd2, Bool.and_false]
                have HRQ : Hid (riseP ac1 s by_ = ac1) := Lib.hid (by unfold riseP; rw [hin]; simp)
                have hv : riseV ac1 s by_ = 0 := by unfold riseV riseB; rw [hin]; simp
                have hbb : riseB ac1 s by_ = false := by unfold riseB; rw [hin]; rfl
                rw [hv, hbb] at HRI
                clear hin hv hbb hrl
                go_wp2_with fail
                refine HRI.out.mono ?_
                rintro o z2 ⟨rfl, ⟨s3, hp3⟩, hz2⟩
                have HP3 := Lib.hid hp3
                have HZ9 := Lib.hid hz2
                have q1 := HDS.out z2 hz2
                have hEz : EnsP z2.heap.size z2 (.slice ya yn yc) ac1 := (HSA.out.ens.but hz2 HSA.out.off (Nat.le_refl _)).mono hz2.size
                have HEZ := Lib.hid hEz
                have hbz : Below w.heap.size w z2 := ((But.of_below HSA.out.bel).trans' hz2 : But [pb] w z2).below (fun j hj => by simp at hj; have := HPB.out; omega) (Nat.le_refl _)
                have HBZ := Lib.hid hbz
                clear hp3 hz2 hEz hbz q0
                go_wp2_with fail
                go_roundw
                case rel => exact ⟨m + 1, ya, yn, yc, _, ac1, rfl, by go_num, by omega, .inr (by omega), by omega, ⟨HRQ.out ▸ HP3.out, HEZ.out, HBZ.out⟩⟩
                case measure => simp [intOf]; omega
              · have hd2 : decide (by_ ≤ 1099511627776) = true := decide_eq_true (by omega)
                have hin : inBy by_ = true := by unfold inBy; rw [hd1, hd2]; rfl
                have hmo := ask_most HSA.out.ps.tie s
                have hnn := askL_nonneg (wi := withinB) ac1 s
                obtain ⟨av, hav⟩ : ∃ av, askL withinB ac1 s = av := ⟨_, rfl⟩
                rw [hav] at hmo hnn
                have hw9 : IntKind.i64.wrap (av + by_) = av + by_ := by rw [IntKind.wrap_i64]; omega
                cases hrs : risesP ac1 (s, av + by_) with
                | true =>
                  have hrr : risesP ac1 (s, av + by_) = true := hrs
                  have HRQ : Hid (riseP ac1 s by_ = putP ac1 (s, av + by_)) := Lib.hid (by unfold riseP; rw [hin, hav]; simp)
                  have hbb : riseB ac1 s by_ = true := by unfold riseB; rw [hin, hav, hrr]; rfl
                  have hv : riseV ac1 s by_ = av + by_ := by unfold riseV; rw [hbb, hav]; rfl
                  rw [hv, hbb] at HRI
                  have gq : (av + by_ != av + by_) = false := by simp
                  clear hin hv hbb hrs
                  go_wp2_with fail
                  refine HRI.out.mono ?_
                  rintro o z2 ⟨rfl, ⟨s3, hp3⟩, hz2⟩
                  have HP3 := Lib.hid hp3
                  have HZ9 := Lib.hid hz2
                  have q1 := HDS.out z2 hz2
                  have hEz : EnsP z2.heap.size z2 (.slice ya yn yc) ac1 := (HSA.out.ens.but hz2 HSA.out.off (Nat.le_refl _)).mono hz2.size
                  have HEZ := Lib.hid hEz
                  have hbz : Below w.heap.size w z2 := ((But.of_below HSA.out.bel).trans' hz2 : But [pb] w z2).below (fun j hj => by simp at hj; have := HPB.out; omega) (Nat.le_refl _)
                  have HBZ := Lib.hid hbz
                  clear hp3 hz2 hEz hbz q0
                  have HAK := Lib.hid (refAsk_any ya yn yc s ac1 z2 hsok HSA.out.ok (by omega) HEZ.out)
                  rw [hav] at HAK
                  have HPK := Lib.hid (refPut_any ya yn yc (s, av + by_) ac1 z2 hsok HSA.out.ok (by omega) HEZ.out)
                  simp only at HPK
                  rw [hrr] at HPK
                  clear hrr
                  go_wp2_with fail
                  refine HAK.out.mono ?_
                  rintro o z3 ⟨rfl, hz3⟩
                  obtain rfl := hz3
                  go_wp2_with fail
                  refine HPK.out.mono ?_
                  rintro o z4 ⟨va, vn, vc, rfl, hE4, hz4⟩
                  have HS4 : Hid (PlS w z4 pb s3 (.slice va vn vc) (riseP ac1 s by_)) := Lib.hid ⟨HP3.out.below hz4, by rw [HRQ.out]; exact hE4, HBZ.out.trans (hz4.mono HBZ.out.size)⟩
                  clear hE4 hz4 q1
                  go_wp2_with fail
                  go_roundw
                  case rel => exact ⟨m + 1, va, vn, vc, _, riseP ac1 s by_, rfl, by go_num, by omega, .inr (by omega), by omega, HS4.out⟩
                  case measure => simp [intOf]; omega
                | false =>
                  have hrr : risesP ac1 (s, av + by_) = false := hrs
                  have HRQ : Hid (riseP ac1 s by_ = putP ac1 (s, av + by_)) := Lib.hid (by unfold riseP; rw [hin, hav]; simp)
                  have hbb : riseB ac1 s by_ = false := by unfold riseB; rw [hin, hav, hrr]; rfl
                  have hv : riseV ac1 s by_ = 0 := by unfold riseV; rw [hbb]; rfl
                  rw [hv, hbb] at HRI
                  skip
                  clear hin hv hbb hrs
                  go_wp2_with fail
                  refine HRI.out.mono ?_
                  rintro o z2 ⟨rfl, ⟨s3, hp3⟩, hz2⟩
                  have HP3 := Lib.hid hp3
                  have HZ9 := Lib.hid hz2
                  have q1 := HDS.out z2 hz2
                  have hEz : EnsP z2.heap.size z2 (.slice ya yn yc) ac1 := (HSA.out.ens.but hz2 HSA.out.off (Nat.le_refl _)).mono hz2.size
                  have HEZ := Lib.hid hEz
                  have hbz : Below w.heap.size w z2 := ((But.of_below HSA.out.bel).trans' hz2 : But [pb] w z2).below (fun j hj => by simp at hj; have := HPB.out; omega) (Nat.le_refl _)
                  have HBZ := Lib.hid hbz
                  clear hp3 hz2 hEz hbz q0
                  have HAK := Lib.hid (refAsk_any ya yn yc s ac1 z2 hsok HSA.out.ok (by omega) HEZ.out)
                  rw [hav] at HAK
                  have HPK := Lib.hid (refPut_any ya yn yc (s, av + by_) ac1 z2 hsok HSA.out.ok (by omega) HEZ.out)
                  simp only at HPK
                  rw [hrr] at HPK
                  clear hrr
                  go_wp2_with fail
                  refine HAK.out.mono ?_
                  rintro o z3 ⟨rfl, hz3⟩
                  obtain rfl := hz3
                  go_wp2_with fail
                  refine HPK.out.mono ?_
                  rintro o z4 ⟨va, vn, vc, rfl, hE4, hz4⟩
                  have HS4 : Hid (PlS w z4 pb s3 (.slice va vn vc) (riseP ac1 s by_)) := Lib.hid ⟨HP3.out.below hz4, by rw [HRQ.out]; exact hE4, HBZ.out.trans (hz4.mono HBZ.out.size)⟩
                  clear hE4 hz4 q1
                  go_wp2_with fail
                  go_roundw
                  case rel => exact ⟨m + 1, va, vn, vc, _, riseP ac1 s by_, rfl, by go_num, by omega, .inr (by omega), by omega, HS4.out⟩
                  case measure => simp [intOf]; omega
          · have gB : decide ((m : Int) < (n1 : Int)) = false := decide_eq_false (by omega)
            go_wp2_with fail
            go_roundw
            case rel => exact ⟨m + 1, ya, yn, yc, _, ac1, rfl, by go_num, by omega, .inl (by omega), by omega, HSA.out⟩
            case measure => simp [intOf]; omega))
    · have gA : decide ((m : Int) < (n0 : Int)) = false := decide_eq_false (by omega)
      by_cases hBB : m < n1
      · have gB : decide ((m : Int) < (n1 : Int)) = true := decide_eq_true (by omega)
        obtain ⟨s, hs⟩ : ∃ x, l1[m]? = some x := ⟨_, List.getElem?_eq_getElem (by rw [HN1.out]; exact hBB)⟩
        obtain ⟨g1, off1, rfl, hg1, f2⟩ := HZ1.out.at_ hs
        have hsok : okS s := HOK1.out _ (List.mem_of_getElem? hs)
        have b3 : (m : Int) < n1 := by omega
        have hgp1 : g1 ≠ pb := by have := HPB.out; omega
        have HDS : Hid (∀ W, But [pb] wo W → W.cell? ⟨g1, off1 + m, none⟩ = some (.int .u64 (s : Nat))) := Lib.hid (fun W hb => by
          have h1 : W.heap[g1]? = w.heap[g1]? := (hb.block g1 (Nat.lt_of_lt_of_le hg1 HS.out.bel.size) (by simpa using hgp1)).trans (HS.out.bel.block g1 hg1)
          exact (World.cell?_of_block (w := w) (a := ⟨g1, off1 + m, none⟩) h1).trans f2)
        have q0 := HDS.out wo (But.refl _ _)
        have HRI := Lib.hid (rise_any s by_ wo HS.out.ps hsok (by omega))
        have hrl := rise_len acc s by_
        clear hs f2
        by_cases h1 : by_ < 1
        · have hd1 : decide (1 ≤ by_) = false := decide_eq_false (by omega)
          have hin : inBy by_ = false := by unfold inBy; rw [hd1]; rfl
          have HRQ : Hid (riseP acc s by_ = acc) := Lib.hid (by unfold riseP; rw [hin]; simp)
          have hv : riseV acc s by_ = 0 := by unfold riseV riseB; rw [hin]; simp
          have hbb : riseB acc s by_ = false := by unfold riseB; rw [hin]; rfl
          rw [hv, hbb] at HRI
          clear hin hv hbb hrl
          go_wp2_with fail
          refine HRI.out.mono ?_
          rintro o z2 ⟨rfl, ⟨s3, hp3⟩, hz2⟩
          have HP3 := Lib.hid hp3
          have HZ9 := Lib.hid hz2
          have q1 := HDS.out z2 hz2
          have hEz : EnsP z2.heap.size z2 (.slice xa xn xc) acc := (HS.out.ens.but hz2 HS.out.off (Nat.le_refl _)).mono hz2.size
          have HEZ := Lib.hid hEz
          have hbz : Below w.heap.size w z2 := ((But.of_below HS.out.bel).trans' hz2 : But [pb] w z2).below (fun j hj => by simp at hj; have := HPB.out; omega) (Nat.le_refl _)
          have HBZ := Lib.hid hbz
          clear hp3 hz2 hEz hbz q0
          go_wp2_with fail
          go_roundw
          case rel => exact ⟨m + 1, xa, xn, xc, _, acc, rfl, by go_num, by omega, .inr (by omega), by omega, ⟨HRQ.out ▸ HP3.out, HEZ.out, HBZ.out⟩⟩
          case measure => simp [intOf]; omega
        · have hd1 : decide (1 ≤ by_) = true := decide_eq_true (by omega)
          by_cases h2 : 1099511627776 < by_
          · have hd2 : decide (by_ ≤ 1099511627776) = false := decide_eq_false (by omega)
            have hin : inBy by_ = false := by unfold inBy; rw [hd2, Bool.and_false]
            have HRQ : Hid (riseP acc s by_ = acc) := Lib.hid (by unfold riseP; rw [hin]; simp)
            have hv : riseV acc s by_ = 0 := by unfold riseV riseB; rw [hin]; simp
            have hbb : riseB acc s by_ = false := by unfold riseB; rw [hin]; rfl
            rw [hv, hbb] at HRI
            clear hin hv hbb hrl
            go_wp2_with fail
            refine HRI.out.mono ?_
            rintro o z2 ⟨rfl, ⟨s3, hp3⟩, hz2⟩
            have HP3 := Lib.hid hp3
            have HZ9 := Lib.hid hz2
            have q1 := HDS.out z2 hz2
            have hEz : EnsP z2.heap.size z2 (.slice xa xn xc) acc := (HS.out.ens.but hz2 HS.out.off (Nat.le_refl _)).mono hz2.size
            have HEZ := Lib.hid hEz
            have hbz : Below w.heap.size w z2 := ((But.of_below HS.out.bel).trans' hz2 : But [pb] w z2).below (fun j hj => by simp at hj; have := HPB.out; omega) (Nat.le_refl _)
            have HBZ := Lib.hid hbz
            clear hp3 hz2 hEz hbz q0
            go_wp2_with fail
            go_roundw
            case rel => exact ⟨m + 1, xa, xn, xc, _, acc, rfl, by go_num, by omega, .inr (by omega), by omega, ⟨HRQ.out ▸ HP3.out, HEZ.out, HBZ.out⟩⟩
            case measure => simp [intOf]; omega
          · have hd2 : decide (by_ ≤ 1099511627776) = true := decide_eq_true (by omega)
            have hin : inBy by_ = true := by unfold inBy; rw [hd1, hd2]; rfl
            have hmo := ask_most HS.out.ps.tie s
            have hnn := askL_nonneg (wi := withinB) acc s
            obtain ⟨av, hav⟩ : ∃ av, askL withinB acc s = av := ⟨_, rfl⟩
            rw [hav] at hmo hnn
            have hw9 : IntKind.i64.wrap (av + by_) = av + by_ := by rw [IntKind.wrap_i64]; omega
            cases hrs : risesP acc (s, av + by_) with
            | true =>
              have hrr : risesP acc (s, av + by_) = true := hrs
              have HRQ : Hid (riseP acc s by_ = putP acc (s, av + by_)) := Lib.hid (by unfold riseP; rw [hin, hav]; simp)
              have hbb : riseB acc s by_ = true := by unfold riseB; rw [hin, hav, hrr]; rfl
              have hv : riseV acc s by_ = av + by_ := by unfold riseV; rw [hbb, hav]; rfl
              rw [hv, hbb] at HRI
              have gq : (av + by_ != av + by_) = false := by simp
              clear hin hv hbb hrs
              go_wp2_with fail
              refine HRI.out.mono ?_
              rintro o z2 ⟨rfl, ⟨s3, hp3⟩, hz2⟩
              have HP3 := Lib.hid hp3
              have HZ9 := Lib.hid hz2
              have q1 := HDS.out z2 hz2
              have hEz : EnsP z2.heap.size z2 (.slice xa xn xc) acc := (HS.out.ens.but hz2 HS.out.off (Nat.le_refl _)).mono hz2.size
              have HEZ := Lib.hid hEz
              have hbz : Below w.heap.size w z2 := ((But.of_below HS.out.bel).trans' hz2 : But [pb] w z2).below (fun j hj => by simp at hj; have := HPB.out; omega) (Nat.le_refl _)
              have HBZ := Lib.hid hbz
              clear hp3 hz2 hEz hbz q0
              have HAK := Lib.hid (refAsk_any xa xn xc s acc z2 hsok HS.out.ok (by omega) HEZ.out)
              rw [hav] at HAK
              have HPK := Lib.hid (refPut_any xa xn xc (s, av + by_) acc z2 hsok HS.out.ok (by omega) HEZ.out)
              simp only at HPK
              rw [hrr] at HPK
              clear hrr
              go_wp2_with fail
              refine HAK.out.mono ?_
              rintro o z3 ⟨rfl, hz3⟩
              obtain rfl := hz3
              go_wp2_with fail
              refine HPK.out.mono ?_
              rintro o z4 ⟨va, vn, vc, rfl, hE4, hz4⟩
              have HS4 : Hid (PlS w z4 pb s3 (.slice va vn vc) (riseP acc s by_)) := Lib.hid ⟨HP3.out.below hz4, by rw [HRQ.out]; exact hE4, HBZ.out.trans (hz4.mono HBZ.out.size)⟩
              clear hE4 hz4 q1
              go_wp2_with fail
              go_roundw
              case rel => exact ⟨m + 1, va, vn, vc, _, riseP acc s by_, rfl, by go_num, by omega, .inr (by omega), by omega, HS4.out⟩
              case measure => simp [intOf]; omega
            | false =>
              have hrr : risesP acc (s, av + by_) = false := hrs
              have HRQ : Hid (riseP acc s by_ = putP acc (s, av + by_)) := Lib.hid (by unfold riseP; rw [hin, hav]; simp)
              have hbb : riseB acc s by_ = false := by unfold riseB; rw [hin, hav, hrr]; rfl
              have hv : riseV acc s by_ = 0 := by unfold riseV; rw [hbb]; rfl
              rw [hv, hbb] at HRI
              skip
              clear hin hv hbb hrs
              go_wp2_with fail
              refine HRI.out.mono ?_
              rintro o z2 ⟨rfl, ⟨s3, hp3⟩, hz2⟩
              have HP3 := Lib.hid hp3
              have HZ9 := Lib.hid hz2
              have q1 := HDS.out z2 hz2
              have hEz : EnsP z2.heap.size z2 (.slice xa xn xc) acc := (HS.out.ens.but hz2 HS.out.off (Nat.le_refl _)).mono hz2.size
              have HEZ := Lib.hid hEz
              have hbz : Below w.heap.size w z2 := ((But.of_below HS.out.bel).trans' hz2 : But [pb] w z2).below (fun j hj => by simp at hj; have := HPB.out; omega) (Nat.le_refl _)
              have HBZ := Lib.hid hbz
              clear hp3 hz2 hEz hbz q0
              have HAK := Lib.hid (refAsk_any xa xn xc s acc z2 hsok HS.out.ok (by omega) HEZ.out)
              rw [hav] at HAK
              have HPK := Lib.hid (refPut_any xa xn xc (s, av + by_) acc z2 hsok HS.out.ok (by omega) HEZ.out)
              simp only at HPK
              rw [hrr] at HPK
              clear hrr
              go_wp2_with fail
              refine HAK.out.mono ?_
              rintro o z3 ⟨rfl, hz3⟩
              obtain rfl := hz3
              go_wp2_with fail
              refine HPK.out.mono ?_
              rintro o z4 ⟨va, vn, vc, rfl, hE4, hz4⟩
              have HS4 : Hid (PlS w z4 pb s3 (.slice va vn vc) (riseP acc s by_)) := Lib.hid ⟨HP3.out.below hz4, by rw [HRQ.out]; exact hE4, HBZ.out.trans (hz4.mono HBZ.out.size)⟩
              clear hE4 hz4 q1
              go_wp2_with fail
              go_roundw
              case rel => exact ⟨m + 1, va, vn, vc, _, riseP acc s by_, rfl, by go_num, by omega, .inr (by omega), by omega, HS4.out⟩
              case measure => simp [intOf]; omega
      · have gB : decide ((m : Int) < (n1 : Int)) = false := decide_eq_false (by omega)
        go_wp2_with fail
        go_ret3
        exact ⟨pb, sv, xa, xn, xc, acc, rfl, Nat.le_of_eq HPB.out, HS.out, by omega⟩
end Go.Proofs.Ytpcbdjdmhemjdaa
