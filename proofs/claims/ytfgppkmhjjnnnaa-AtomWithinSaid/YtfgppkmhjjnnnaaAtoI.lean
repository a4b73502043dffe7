/- atom.Normal and atom.IsNormal. -/
import Derived.Test.YtfgppkmhjjnnnaaAtoG
import Derived.Test.YtfgppkmhjjnnnaaAtoH
import Derived.Test.YtfgppkmhjjnnnaaAtoT
import Derived.Test.YtfgppkmhjjnnnaaAtoX
namespace Go.Proofs.Ytfgppkmhjjnnnaa
open Go.RowKit
set_option linter.unusedVariables false
attribute [local go_sem] Oper.semAt_some

set_option maxRecDepth 100000 in
set_option maxHeartbeats 8000000 in
theorem normal_any (a : Option Addr) (n c : Nat) (zs : List Ent) (hok : ∀ x ∈ zs, okS x.1) (hlen : zs.length ≤ 10000) (w : World) (hz : EnsP w.heap.size w (.slice a n c) zs) :
    Calls Try.prog 12 #[.slice a n c] w fun e w' => ∃ v out, e = .returned v ∧ IsNrm zs out ∧ out.length ≤ zs.length ∧ (∀ x ∈ out, okS x.1) ∧ w'.ownsRow w.heap.size 26 2 v out.length (flatVE out) ∧ Below w.heap.size w w' := by
  obtain ⟨i0, hi, hz0, hz1, hz2⟩ := info_parts infoTE
  have HGR := Lib.hid (greatest_any a n c zs hok hlen w hz)
  have HOK := Lib.hid hok
  clear hz hok
  go_enter Try.func12, Try.ntmps12
  go_wp2_with fail
  refine HGR.out.mono ?_
  rintro e w1 ⟨rfl, ⟨l, hT, hll, hI⟩, hb1⟩
  have hkeys : ∀ y ∈ l, ∃ z : Nat, y.1 = z ∧ okS z := fun y hy => by
    obtain ⟨x, hx, e⟩ := hI.src y hy
    exact ⟨x.1, by rw [e], HOK.out x (List.mem_filter.1 hx).1⟩
  have HOR := Lib.hid (ordered_any w.heap.size l hkeys (by omega) w1 hT)
  have HB1 := Lib.hid hb1
  have HI := Lib.hid hI
  clear hT hkeys hb1 hI
  go_wp2_with fail
  refine HOR.out.mono ?_
  rintro e w2 ⟨v, S, rfl, hrow, hperm, hsort, hb2⟩
  have hO := ordOf HI.out hperm hsort
  have hSl : S.length ≤ zs.length := by rw [hperm.length_eq, entsOf_len]; exact hll
  have hSok : ∀ x ∈ S, okS x.1 := fun x hx => HOK.out x (List.mem_filter.1 (hO.src x hx)).1
  have hSr : ∀ x ∈ S, rightA 1099511627776 x = true := fun x hx => (List.mem_filter.1 (hO.src x hx)).2
  have HSR := Lib.hid hSr
  have hEnd : IsNrm zs (normC withinB S) := isNrm HOK.out hO
  have hES := EnsP.of_owns hrow
  obtain ⟨sa, sc, rfl⟩ := own_form hrow
  have HES := Lib.hid hES
  have HEND := Lib.hid hEnd
  have HSOK := Lib.hid hSok
  have HB2 : Hid (Below w.heap.size w w2) := Lib.hid (HB1.out.trans (hb2.mono HB1.out.size))
  have HSL := Lib.hid hSl
  obtain ⟨q, hq⟩ : ∃ q, S.length = q := ⟨_, rfl⟩
  have HQ := Lib.hid hq
  rw [hq]
  have hqb : q ≤ 10000 := by omega
  clear hrow hperm hsort hb2 hO hSl hSok hSr hEnd hES hq hll
  go_wp2
  go_loopw [3, 10] (fun nv i wr => ∃ (m : Nat) (out : List Ent) (na : Option Addr) (nc : Nat), nv = .slice na out.length nc ∧ i = .int .i64 m ∧ m ≤ q ∧ RowE w2 nv out wr ∧ out = normC withinB (S.take m)) (fun _ i _ => q - (intOf i).toNat)
  case atStart => exact ⟨0, [], none, 0, rfl, rfl, Nat.zero_le _, RowE.nil w2, rfl⟩
  case round =>
    obtain ⟨m, out, na, nc, rfl, rfl, hm, hR, hout⟩ := hrel
    by_cases hlt : m < q
    · obtain ⟨⟨k, u⟩, hk⟩ : ∃ x, S[m]? = some x := ⟨_, List.getElem?_eq_getElem (by rw [HQ.out]; exact hlt)⟩
      obtain ⟨b, off, rfl, hb, f0, f1⟩ := HES.out.at_ hk
      have hkok := HSOK.out _ (List.mem_of_getElem? hk)
      have d0 := (hR.bel.cell (p := ⟨b, off + m * 2, none⟩) hb).trans f0
      have d1 := (hR.bel.cell (p := ⟨b, off + m * 2 + 1, none⟩) hb).trans f1
      simp only at d0 d1 hkok
      have g1 : (0 : Int) ≤ m := by omega
      have g2 : (m : Int) < q := by omega
      have hsub : ∀ x ∈ out, x ∈ S := fun x hx => by rw [hout] at hx; exact normC_sub S m x hx
      have hol : out.length ≤ m := by rw [hout]; exact (normC_len S m).1
      have hnx := normC_next hk
      rw [← hout] at hnx
      have hright : out.filter (rightA 1099511627776) = out := List.filter_eq_self.2 (fun x hx => HSR.out x (hsub x hx))
      obtain ⟨W1, hW1⟩ : ∃ W1, wr.alloc (.cells #[.int .u64 (k : Nat), .int .i64 u] 26) = W1 := ⟨_, rfl⟩
      have hb01 : Below wr.heap.size wr W1 := by rw [← hW1]; exact (Below.refl _ _).alloc (Nat.le_refl _) _
      have hnew : W1.heap[wr.heap.size]? = some (.cells #[.int .u64 (k : Nat), .int .i64 u] 26) := by rw [← hW1]; exact World.alloc_heap_new wr _
      have hBlt : wr.heap.size < W1.heap.size := by rw [← hW1]; simp
      have HR1 := Lib.hid (hR.below hb01)
      have c0 := BelW.cell (w := W1) (a := ⟨wr.heap.size, 0, none⟩) hBlt (cell_of_row W1 _ 0 _ _ _ hnew)
      have c1 := BelW.cell (w := W1) (a := ⟨wr.heap.size, 1, none⟩) hBlt (cell_of_row W1 _ 1 _ _ _ hnew)
      have HV : Hid (∀ p : BelW W1, Calls Try.prog 16 #[.slice na out.length nc, .int .u64 (k : Nat)] p.W fun e w' => e = .returned (.int .i64 (askL withinB out k)) ∧ Below p.W.heap.size p.W w') := Lib.hid (fun p => by
        have hE := EnsP.of_owns ((HR1.out.below p.h).row)
        have h := value_any na out.length nc k out hkok (fun x hx => HSOK.out x (hsub x hx)) (by omega) p.W hE
        rw [hright] at h
        exact h)
      have HW1 := Lib.hid hW1
      have HNX := Lib.hid hnx
      have HZW : Hid (w2.heap.size ≤ W1.heap.size) := Lib.hid HR1.out.bel.size
      clear hR hW1 hnew hk hout hright hsub hnx f0 f1
      obtain ⟨r, hr⟩ : ∃ r, askL withinB out k = r := ⟨_, rfl⟩
      rw [hr] at HV HNX
      clear hr
      have hol2 : out.length ≤ 10000 := by omega
      obtain ⟨len, hlen2⟩ : ∃ len, out.length = len := ⟨_, rfl⟩
      have HLEN := Lib.hid hlen2
      rw [hlen2] at hol HV HR1 ⊢
      clear hlen2
      by_cases hru : r < u
      · have g3 : decide (r < u) = true := decide_eq_true hru
        rw [if_pos hru] at HNX
        go_upto_region 5 with fail
        rw [HW1.out]
        refine wp_region_bel (by kernel_rfl) (by kernel_rfl) ?_
        repeat (quiet_step ((go_at_call 16; exact Calls.bel_of (HV.out _))))
        refine wpQuiet_nil ?_
        intro W3 hw'
        have hb3 : Below W1.heap.size W1 W3 := by
          obtain ⟨p, hp⟩ := hw'
          rw [hp]
          exact p.h
        clear hw'
        have e0 := c0 ⟨W3, hb3⟩
        have e1 := c1 ⟨W3, hb3⟩
        simp only at e0 e1
        have HRR := Lib.hid (HR1.out.below hb3)
        have hz3 := hb3.size
        have hz4 := HZW.out
        clear c0 c1 HV HR1 hb3 hb01 hBlt d0 d1
        obtain ⟨nv, hnv⟩ : ∃ nv, Value.slice na len nc = nv := ⟨_, rfl⟩
        rw [hnv] at HRR ⊢
        clear hnv
        go_wp2_with (at_builtin; refine wpList_append_own_at _ rfl _ _ 22 rfl w2.heap.size 26 i0 (.agg #[.int .u64 0, .int .i64 0]) 2 16 Try.underlying22 hi hz0 hz1 hz2 rfl (by decide) _ _ _ rfl (HRR.out.row.alloc _) ⟨W3.heap.size, 0, none⟩ 1 1 [.int .u64 (k : Nat), .int .i64 u] rfl rfl (World.news_of_block (World.alloc_heap_new W3 _)) (by simp [Value.oneCell']) (by unfold maxLen; omega) (by omega) (by simp; omega) ?_; intro v' A hown' hgrow _ _; have HA := Lib.hid (HRR.out.app k u _ hown' hgrow); clear hown' hgrow)
        go_roundw
        case rel =>
          obtain ⟨sa2, sc2, rfl⟩ := own_form HA.out.row
          exact ⟨m + 1, out ++ [(k, u)], sa2, sc2, by rw [List.length_append, HLEN.out, List.length_singleton], by go_num, by omega, HA.out, HNX.out.symm⟩
        case measure => simp [intOf]; omega
      · have g3 : decide (r < u) = false := decide_eq_false hru
        rw [if_neg hru] at HNX
        go_upto_region 5 with fail
        rw [HW1.out]
        refine wp_region_bel (by kernel_rfl) (by kernel_rfl) ?_
        repeat (quiet_step ((go_at_call 16; exact Calls.bel_of (HV.out _))))
        refine wpQuiet_nil ?_
        intro W3 hw'
        have hb3 : Below W1.heap.size W1 W3 := by
          obtain ⟨p, hp⟩ := hw'
          rw [hp]
          exact p.h
        clear hw'
        have HRR := Lib.hid (HR1.out.below hb3)
        clear c0 c1 HV HR1 hb3 hb01 hBlt d0 d1
        go_wp2
        go_roundw
        case rel => exact ⟨m + 1, out, na, nc, by rw [HLEN.out], by go_num, by omega, HRR.out, HNX.out.symm⟩
        case measure => simp [intOf]; omega
    · obtain rfl : m = q := by omega
      rw [List.take_of_length_le (by rw [HQ.out]; exact Nat.le_refl _)] at hout
      have hlen3 : out.length ≤ zs.length := by
        have h1 := (normC_len S S.length).2
        rw [List.take_of_length_le (Nat.le_refl _), ← hout] at h1
        exact Nat.le_trans h1 HSL.out
      have hok3 : ∀ x ∈ out, okS x.1 := fun x hx => by
        have h1 := normC_sub S S.length x
        rw [List.take_of_length_le (Nat.le_refl _), ← hout] at h1
        exact HSOK.out x (h1 hx)
      have HF : Hid (IsNrm zs out ∧ out.length ≤ zs.length ∧ (∀ x ∈ out, okS x.1) ∧ wr.ownsRow w.heap.size 26 2 (.slice na out.length nc) out.length (flatVE out) ∧ Below w.heap.size w wr) := Lib.hid (by
        refine ⟨by rw [hout]; exact HEND.out, hlen3, hok3, ?_, HB2.out.trans (hR.bel.mono HB2.out.size)⟩
        have hrow := hR.row
        have hsz := HB2.out.size
        refine ⟨hrow.1, ?_⟩
        rcases hrow.2 with h | ⟨g, cap, cur, h1, h2, h3⟩
        · exact .inl h
        · exact .inr ⟨g, cap, cur, h1, by omega, h3⟩)
      obtain ⟨len, hlen2⟩ : ∃ len, out.length = len := ⟨_, rfl⟩
      rw [hlen2] at HF ⊢
      have HLEN := Lib.hid hlen2
      clear hR hout hlen3 hok3 hlen2
      go_wp2
      go_ret
      refine ⟨_, out, rfl, HF.out.1, by rw [HLEN.out]; exact HF.out.2.1, HF.out.2.2.1, by rw [HLEN.out]; exact HF.out.2.2.2.1, HF.out.2.2.2.2⟩
set_option maxRecDepth 100000 in
set_option maxHeartbeats 4000000 in
theorem isNormal_any (a : Option Addr) (n c : Nat) (zs nrm : List Ent) (hok : ∀ x ∈ zs, okS x.1) (hlen : zs.length ≤ 10000) (w : World) (hz : EnsP w.heap.size w (.slice a n c) zs) (hn : IsNrm zs nrm) :
    Calls Try.prog 13 #[.slice a n c] w fun e w' => e = .returned (.bool (decide (zs = nrm))) ∧ Below w.heap.size w w' := by
  have HN := Lib.hid (normal_any a n c zs hok hlen w hz)
  have HZ := Lib.hid hz
  have HU := Lib.hid hn
  clear hz hn hok
  go_enter Try.func13, Try.ntmps13
  go_wp2_with fail
  refine HN.out.mono ?_
  rintro e w1 ⟨v, out, rfl, h1, h2, h3, hrow, hb⟩
  obtain rfl := HU.out.uniq h1
  have hE := EnsP.of_owns hrow
  obtain ⟨sa, sc, rfl⟩ := own_form hrow
  have HEQ := Lib.hid (slEqual_any a sa n nrm.length c sc zs nrm (by omega) (by omega) w1 ((HZ.out.below hb (Nat.le_refl _)).mono hb.size) hE)
  have HB := Lib.hid hb
  clear hE hrow hb
  go_wp2_with fail
  refine HEQ.out.mono ?_
  rintro e w2 ⟨rfl, hb2⟩
  have HB2 := Lib.hid (HB.out.trans (hb2.mono HB.out.size))
  clear hb2
  go_wp2
  go_ret
  exact ⟨rfl, HB2.out⟩
end Go.Proofs.Ytfgppkmhjjnnnaa
