/- For whatever two rows of bytes law SumLinear answers true: of bytes held against each other the sums are, too. No condition. -/
import Derived.Test.YtbdigpfeedcgaaaSumLin
namespace Go.Proofs.Ytbdigpfeedcgaaa.sumLinear
open Go.ChangeShapes Go.WideShapes Go.ChangeAt Go.RowKit Go.Proofs.Ytbdigpfeedcgaaa Go.Proofs.Ytbdigpfeedcgaaa.SumM
set_option linter.unusedVariables false
attribute [local go_sem] Oper.semAt_some

set_option maxRecDepth 100000 in
set_option maxHeartbeats 2000000 in
theorem walk (w : World) (p0 : Option Addr) (n0 c0 : Nat) (l0 : List Nat) (S0 : Sl encY w.heap.size w (.slice p0 n0 c0) l0) (b0 : ∀ x ∈ l0, x < 256) (p1 : Option Addr) (n1 c1 : Nat) (l1 : List Nat) (S1 : Sl encY w.heap.size w (.slice p1 n1 c1) l1) (b1 : ∀ x ∈ l1, x < 256) :
    Calls Try.prog 3 #[.slice p0 n0 c0, .slice p1 n1 c1] w fun e w' => e = .returned (.bool true) ∧ Below w.heap.size w w' := by
  obtain rfl := S0.len
  obtain rfl := S1.len
  have HS0 := Lib.hid S0
  have HS1 := Lib.hid S1
  obtain ⟨n0, hn0⟩ : ∃ n, l0.length = n := ⟨_, rfl⟩
  obtain ⟨n1, hn1⟩ : ∃ n, l1.length = n := ⟨_, rfl⟩
  have HN0 := Lib.hid hn0
  have HN1 := Lib.hid hn1
  rw [hn0] at HS0 ⊢
  rw [hn1] at HS1 ⊢
  clear S0 S1 hn0 hn1
  have H0 := Lib.hid b0
  have H1 := Lib.hid b1
  clear b0 b1
  obtain ⟨n, hn⟩ : ∃ n : Nat, min n0 n1 = n := ⟨_, rfl⟩
  have hmin : min (n0 : Int) (n1 : Int) = (n : Int) := by omega
  by_cases g0 : (n : Int) > 1000
  · go_enter Try.func3, Try.ntmps3
    go_wp2_with (go_at_call 14; refine (sumAlive_any _).mono ?_; rintro e w1 ⟨rfl, hb1⟩)
    go_ret
    exact ⟨rfl, hb1⟩
  · obtain ⟨i0, hi, hz0, hz1, hz2⟩ := info_parts info8
    go_enter Try.func3, Try.ntmps3
    obtain ⟨la, hla⟩ : ∃ la, l0.take n = la := ⟨_, rfl⟩
    obtain ⟨lb, hlb⟩ : ∃ lb, l1.take n = lb := ⟨_, rfl⟩
    have hna : la.length = n := by rw [← hla, List.length_take, HN0.out]; omega
    have hnb : lb.length = n := by rw [← hlb, List.length_take, HN1.out]; omega
    have hba : ∀ x ∈ la, x < 256 := fun x hx => H0.out x (List.mem_of_mem_take (by rw [hla]; exact hx))
    have hbb : ∀ x ∈ lb, x < 256 := fun x hx => H1.out x (List.mem_of_mem_take (by rw [hlb]; exact hx))
    have hSa : Sl encY w.heap.size w (.slice p0 n c0) la := by rw [← hla]; exact HS0.out.take (by omega)
    have hSb : Sl encY w.heap.size w (.slice p1 n c1) lb := by rw [← hlb]; exact HS1.out.take (by omega)
    have HA := Lib.hid hna
    have HB := Lib.hid hnb
    have HBA := Lib.hid hba
    have HBB := Lib.hid hbb
    have HSA := Lib.hid hSa
    have HSB := Lib.hid hSb
    have HLA := Lib.hid hla
    have HLB := Lib.hid hlb
    have hc0 := HS0.out.capb
    have hc1 := HS1.out.capb
    clear hla hlb hna hnb hba hbb hSa hSb
    go_wp2_with (first | (go_at_call 14; refine (sumAlive_any _).mono ?_; rintro e w1 ⟨rfl, hb1⟩) | (refine wpList_make_full _ rfl (.tmp 17) (.tmp 17) 22 rfl _ 5 i0 (.int .u8 0) 1 Try.underlying22 hi hz0 hz1 .i64 .i64 _ _ n rfl rfl rfl rfl (by rw [hz2]; omega) (by unfold maxLen; omega) (Nat.le_refl _) ?_))
    intro w2 hown2 hg2
    have hb2 : Below w1.heap.size w1 w2 := (Below.refl _ w1).grown hg2 (Nat.le_refl _) (fun k h => by cases h)
    have HB1 := Lib.hid hb1
    have HB2 := Lib.hid hb2
    obtain ⟨X, hX⟩ : ∃ X, w1.heap.size = X := ⟨_, rfl⟩
    have HX := Lib.hid hX
    have hwX : w.heap.size ≤ X := by rw [← hX]; exact hb1.size
    rw [hX] at hown2 HB2 ⊢
    have HO2 := Lib.hid hown2
    clear hown2 hg2 hb1 hb2 hX
    go_wp2_with fail
    go_loopw [7, 21] (fun _ i wr => ∃ k : Nat, k ≤ n ∧ i = .int .i64 k ∧ wr.ownsRow X 5 1 (.slice (some ⟨X, 0, none⟩) n n) n ((linX la lb n k).map encY) ∧ Below X w1 wr) (fun _ i _ => n - (intOf i).toNat)
    case atStart =>
      refine ⟨0, Nat.zero_le _, rfl, ?_, HB2.out⟩
      have h := HO2.out
      have hm : (madeCells #[Value.int IntKind.u8 0] n).toList = (linX la lb n 0).map encY := by
        unfold linX
        rw [List.take_zero, List.nil_append, Nat.sub_zero, List.map_replicate]
        exact toList_madeCells_one _ n
      rw [← hm]
      exact h
    case round =>
      obtain ⟨k, hk, rfl, hrow, hbr⟩ := hrel
      by_cases hlt : k < n
      · obtain ⟨x, hx⟩ : ∃ x, la[k]? = some x := ⟨la[k]'(by rw [HA.out]; exact hlt), List.getElem?_eq_getElem _⟩
        obtain ⟨y, hy⟩ : ∃ y, lb[k]? = some y := ⟨lb[k]'(by rw [HB.out]; exact hlt), List.getElem?_eq_getElem _⟩
        obtain ⟨ba, oa, rfl, hba, hca⟩ := HSA.out.at_ hx
        obtain ⟨bb, ob, rfl, hbb, hcb⟩ := HSB.out.at_ hy
        have hw1r : Below w.heap.size w wr := HB1.out.trans (hbr.mono hwX)
        have ka : wr.cell? ⟨ba, oa + k, none⟩ = some (.int .u8 (x : Int)) := (hw1r.cell (p := ⟨ba, oa + k, none⟩) hba).trans hca
        have kb : wr.cell? ⟨bb, ob + k, none⟩ = some (.int .u8 (y : Int)) := (hw1r.cell (p := ⟨bb, ob + k, none⟩) hbb).trans hcb
        have hxy := xor8 x y (HBA.out x (List.mem_of_getElem? hx)) (HBB.out y (List.mem_of_getElem? hy))
        have hlen := linX_len (la := la) (lb := lb) HA.out HB.out hk
        obtain ⟨u, hu⟩ : ∃ u, ((linX la lb n k).map encY)[k]? = some u := ⟨_, List.getElem?_eq_getElem (by rw [List.length_map, hlen]; exact hlt)⟩
        have cX : wr.cell? ⟨X, k, none⟩ = some u := (hrow.cellAt k (by omega)).trans hu
        have fX := hrow.frozenAt k
        obtain ⟨hst1, hst2⟩ := hrow.stored k (.int .u8 ((x ^^^ y : Nat) : Int))
        have hset : ((linX la lb n k).map encY).set k (.int .u8 ((x ^^^ y : Nat) : Int)) = (linX la lb n (k + 1)).map encY := by
          rw [← linX_set HA.out HB.out hlt hx hy, List.map_set]; rfl
        rw [hset] at hst1
        have HS1' := Lib.hid hst1
        have HBR' : Hid (Below X w1 (wr.setCell ⟨X, k, none⟩ (.int .u8 ((x ^^^ y : Nat) : Int)))) := Lib.hid (hbr.grown hst2 (by rw [← HX.out]; exact hbr.size) (fun g e => by cases e; exact Nat.le_refl _))
        have hk0 : (0 : Int) ≤ k := by omega
        have hk1 : (k : Int) < n0 := by omega
        have hk2 : (k : Int) < n1 := by omega
        have hk3 : (k : Int) < n := by omega
        clear hst1 hst2 hset hu hlen hx hy hca hcb hw1r hrow hbr
        go_wp2_with fail
        go_region
        all_goals go_wp2
        all_goals exact ⟨⟨k + 1, hlt, by go_num, HS1'.out, HBR'.out.drew⟩, by simp [intOf]; omega⟩
      · obtain rfl : k = n := by omega
        have hkn : ¬ (k : Int) < k := by omega
        go_wp2_with fail
        obtain ⟨xs, hxs⟩ : ∃ xs, xorL la lb = xs := ⟨_, rfl⟩
        obtain ⟨zs, hzs⟩ : ∃ zs, List.replicate k 0 = zs := ⟨_, rfl⟩
        have HXS := Lib.hid hxs
        have HZS := Lib.hid hzs
        have hSX := Sl.of_owns (xs := linX la lb k k) (by rw [linX_len HA.out HB.out (Nat.le_refl _)]; exact hrow)
        rw [linX_end HA.out HB.out, hxs] at hSX
        have HSX := Lib.hid hSX
        have HBR := Lib.hid (HB1.out.trans (hbr.mono hwX))
        have hmath := sum_linear HA.out HB.out HBA.out HBB.out
        rw [hxs, hzs] at hmath
        have hxor1 := u32_xor_nat (sumL la) (sumL lb) (sumL_lt la) (sumL_lt lb)
        have hxor2 := u32_xor_nat (sumL la ^^^ sumL lb) (sumL zs) (Nat.xor_lt_two_pow (n := 32) (sumL_lt la) (sumL_lt lb)) (sumL_lt zs)
        rw [hmath] at hxor2
        have BX := Lib.hid (xorL_bytes (n := k) (by omega) HA.out HB.out HBA.out HBB.out)
        rw [hxs] at BX
        have BA : Hid (Bytes la) := Lib.hid ⟨by rw [HA.out]; omega, HBA.out⟩
        have BB : Hid (Bytes lb) := Lib.hid ⟨by rw [HB.out]; omega, HBB.out⟩
        have BZ : Hid (Bytes zs) := Lib.hid ⟨by rw [← hzs, List.length_replicate]; omega, fun x hx => by rw [← hzs] at hx; rw [List.eq_of_mem_replicate hx]; decide⟩
        have HMA := Lib.hid hmath
        have hkc0 : (k : Int) ≤ c0 := by omega
        have hkc1 : (k : Int) ≤ c1 := by omega
        have hk00 : (0 : Int) ≤ k := by omega
        have HSAR := Lib.hid (hS_step HSA.out HBR.out)
        have HSBR := Lib.hid (hS_step HSB.out HBR.out)
        clear hmath
        clear hxs hzs hSX hrow hbr HO2 HB2
        refine region_rel (l := _) (by kernel_rfl) (by decide +kernel) (fun v => { tmps := #[Value.slice p0 n0 c0, Value.slice p1 n1 c1, undef, undef, v 20, Value.int IntKind.i64 (k : Nat), Value.slice (some ⟨X, 0, none⟩) k k, u7, Value.bool true, Value.bool false, Value.slice p0 n0 c0, Value.int IntKind.i64 (n0 : Nat), Value.slice p1 n1 c1, Value.int IntKind.i64 (n1 : Nat), Value.int IntKind.i64 (k : Nat), Value.int IntKind.i64 (k : Nat), Value.bool (decide ((1000 : Int) < (k : Nat))), Value.int IntKind.i64 (k : Nat), Value.slice (some ⟨X, 0, none⟩) k k, Value.slice (some ⟨X, 0, none⟩) k k, Value.int IntKind.i64 (k : Nat), Value.int IntKind.i64 (k : Nat), Value.bool false, u23, u24, u25, u26, u27, u28, u29, u30, u31, u32, u33, u34, u35, u36, v 0, v 1, v 2, v 3, v 4, v 5, v 6, v 7, v 8, v 9, v 10, v 11, v 12, v 13, v 14, v 15, v 16, v 17, v 18, v 19], defers := [] }) (fun W => Below wr.heap.size wr W) (fun i u W => match i with
          | 0 => u = .slice (some ⟨X, 0, none⟩) k k
          | 1 => ∃ B, u = .slice (some ⟨B, 0, none⟩) 1 1 ∧ Parts W.heap.size W u [xs]
          | 2 => u = .int .u32 (sumL xs : Nat)
          | 3 => u = .slice p0 n0 c0
          | 4 => u = .int .i64 (k : Nat)
          | 5 => u = .slice p0 k c0
          | 6 => ∃ B, u = .slice (some ⟨B, 0, none⟩) 1 1 ∧ Parts W.heap.size W u [la]
          | 7 => u = .int .u32 (sumL la : Nat)
          | 8 => u = .slice p1 n1 c1
          | 9 => u = .int .i64 (k : Nat)
          | 10 => u = .slice p1 k c1
          | 11 => ∃ B, u = .slice (some ⟨B, 0, none⟩) 1 1 ∧ Parts W.heap.size W u [lb]
          | 12 => u = .int .u32 (sumL lb : Nat)
          | 13 => u = .int .u32 ((sumL la ^^^ sumL lb : Nat) : Int)
          | 14 => u = .int .i64 (k : Nat)
          | 15 => ∃ B, u = .slice (some ⟨B, 0, none⟩) k k ∧ Sl encY W.heap.size W u zs
          | 16 => ∃ B, u = .slice (some ⟨B, 0, none⟩) 1 1 ∧ Parts W.heap.size W u [zs]
          | 17 => u = .int .u32 (sumL zs : Nat)
          | 18 => u = .int .u32 (sumL xs : Nat)
          | 19 => u = .bool true
          | 20 => u = .bool true
          | _ => True) (fun A B => Below A.heap.size A B) ?hC ?hV (fun i => if i = 20 then .bool false else undef) ?h0 ?hop ?hend
        case hC => exact fun A B h h2 => h.trans (h2.mono h.size)
        case h0 => exact (Below.refl _ wr).drew
        case hV =>
          intro i u A B h hx
          match i, h with
          | 1, ⟨b, e, h⟩ => exact ⟨b, e, (h.below hx).mono hx.size⟩
          | 6, ⟨b, e, h⟩ => exact ⟨b, e, (h.below hx).mono hx.size⟩
          | 11, ⟨b, e, h⟩ => exact ⟨b, e, (h.below hx).mono hx.size⟩
          | 16, ⟨b, e, h⟩ => exact ⟨b, e, (h.below hx).mono hx.size⟩
          | 15, ⟨b, e, h⟩ => exact ⟨b, e, (h.below hx).mono hx.size⟩
          | 0, h => exact h
          | 2, h => exact h
          | 3, h => exact h
          | 4, h => exact h
          | 5, h => exact h
          | 7, h => exact h
          | 8, h => exact h
          | 9, h => exact h
          | 10, h => exact h
          | 12, h => exact h
          | 13, h => exact h
          | 14, h => exact h
          | 17, h => exact h
          | 18, h => exact h
          | 19, h => exact h
          | 20, h => exact h
          | n + 21, h => trivial
        case hend =>
          intro v W hc hv
          have h20 : v 20 = .bool true := hv 20 (by decide)
          have HBW : Hid (Below w.heap.size w W) := Lib.hid (HBR.out.trans (hc.mono HBR.out.size))
          clear hv hc
          go_wp2
          go_ret
          exact ⟨by show Ending.returned (v 20) = _; rw [h20], HBW.out⟩
        case hop =>
          simp only [AllDo]
          refine ⟨?o0, ?o1, ?o2, ?o3, ?o4, ?o5, ?o6, ?o7, ?o8, ?o9, ?o10, ?o11, ?o12, ?o13, ?o14, ?o15, ?o16, ?o17, ?o18, ?o19, ?o20, trivial⟩
          all_goals intro v W hc hd Q hQ
          all_goals simp [Region.binds] at hd
          all_goals rw [if_pos (show Region.wanted _ _ = true from rfl)]
          case o0 =>
            go_wp2
            exact ⟨_, rfl, Below.refl _ _, rfl⟩
          case o1 =>
            go_wp2
            exact ⟨_, rfl, (Below.refl _ _).alloc (Nat.le_refl _) _, _, rfl, Parts.one W _ _ _ (hS_step HSX.out hc)⟩
          case o2 =>
            obtain ⟨⟨B, h1⟩, h2⟩ := hd
            rw [h1] at h2
            go_wp2_with fail
            refine (of_part B xs BX.out W h2).mono ?_
            rintro e W' ⟨rfl, hb'⟩
            go_wp2
            refine ⟨.int .u32 (sumL xs : Nat), ?_, hb', rfl⟩
            simp [updV, h1]
          case o3 =>
            go_wp2
            exact ⟨_, rfl, Below.refl _ _, rfl⟩
          case o4 =>
            go_wp2
            exact ⟨_, rfl, Below.refl _ _, rfl⟩
          case o5 =>
            go_wp2
            exact ⟨_, rfl, Below.refl _ _, rfl⟩
          case o6 =>
            go_wp2
            exact ⟨_, rfl, (Below.refl _ _).alloc (Nat.le_refl _) _, _, rfl, Parts.one W _ _ _ (hS_step HSAR.out hc)⟩
          case o7 =>
            obtain ⟨⟨B, h1⟩, h2⟩ := hd.1
            rw [h1] at h2
            go_wp2_with fail
            refine (of_part B la BA.out W h2).mono ?_
            rintro e W' ⟨rfl, hb'⟩
            go_wp2
            refine ⟨.int .u32 (sumL la : Nat), ?_, hb', rfl⟩
            simp [updV, h1, hd.2]
          case o8 =>
            go_wp2
            exact ⟨_, rfl, Below.refl _ _, rfl⟩
          case o9 =>
            go_wp2
            exact ⟨_, rfl, Below.refl _ _, rfl⟩
          case o10 =>
            go_wp2
            exact ⟨_, rfl, Below.refl _ _, rfl⟩
          case o11 =>
            go_wp2
            exact ⟨_, rfl, (Below.refl _ _).alloc (Nat.le_refl _) _, _, rfl, Parts.one W _ _ _ (hS_step HSBR.out hc)⟩
          case o12 =>
            obtain ⟨⟨B, h1⟩, h2⟩ := hd.1
            rw [h1] at h2
            go_wp2_with fail
            refine (of_part B lb BB.out W h2).mono ?_
            rintro e W' ⟨rfl, hb'⟩
            go_wp2
            refine ⟨.int .u32 (sumL lb : Nat), ?_, hb', rfl⟩
            simp [updV, h1, hd.2]
          case o13 =>
            go_wp2
            exact ⟨_, rfl, Below.refl _ _, rfl⟩
          case o14 =>
            go_wp2
            exact ⟨_, rfl, Below.refl _ _, rfl⟩
          case o15 =>
            refine wpList_make_full _ rfl (.tmp 51) (.tmp 51) 22 rfl W.heap.size 5 i0 (.int .u8 0) 1 Try.underlying22 hi hz0 hz1 .i64 .i64 _ _ k hd hd rfl rfl (by rw [hz2]; omega) (by unfold maxLen; omega) (Nat.le_refl _) ?_
            intro w3 hown3 hg3
            have hb3 : Below W.heap.size W w3 := (Below.refl _ W).grown hg3 (Nat.le_refl _) (fun k h => by cases h)
            refine hQ _ _ ⟨_, rfl, hb3, _, rfl, ?_⟩
            have hm : (madeCells #[Value.int IntKind.u8 0] (k * 1)).toList = zs.map encY := by
              rw [Nat.mul_one, toList_madeCells_one, ← HZS.out, List.map_replicate]; rfl
            have h3 := hown3
            rw [show (Value.int IntKind.u8 0).cells = #[Value.int IntKind.u8 0] from rfl, hm] at h3
            exact Sl.of_owns (xs := zs) (by rw [← HZS.out, List.length_replicate] at *; rw [HZS.out]; exact h3)
          case o16 =>
            obtain ⟨⟨B, h1⟩, h2⟩ := hd
            rw [h1] at h2
            go_wp2
            exact ⟨_, rfl, (Below.refl _ _).alloc (Nat.le_refl _) _, _, rfl, Parts.one W _ _ _ h2⟩
          case o17 =>
            obtain ⟨⟨B, h1⟩, h2⟩ := hd.1
            rw [h1] at h2
            go_wp2_with fail
            refine (of_part B zs BZ.out W h2).mono ?_
            rintro e W' ⟨rfl, hb'⟩
            go_wp2
            refine ⟨.int .u32 (sumL zs : Nat), ?_, hb', rfl⟩
            simp [updV, h1, hd.2]
          case o18 =>
            go_wp2
            exact ⟨_, rfl, Below.refl _ _, rfl⟩
          case o19 =>
            go_wp2
            exact ⟨_, rfl, Below.refl _ _, rfl⟩
          case o20 =>
            go_wp2
            exact ⟨_, rfl, Below.refl _ _, rfl⟩


set_option maxRecDepth 100000 in
theorem lifted (os : Os) (started : os.Started) (H : Type) (enc : TypeId × Value → H) :
    ReturnsInHanded {} Try.checked os 3 .any (Rows.sumLinearSpec.pre6 enc Try.prog Try.f3 Rows.sumLinearRow.domain false) (Rows.sumLinearSpec.post enc Try.prog Try.f3 false true false false) := by
  refine returnsInHanded_of_change (C := Try.checked) own started (by kernel_rfl) Try.func3
    (ChangeSpec.witness6 (enc := enc) (C := Try.checked) false ⟨#[], #[.slice none 0 0, .slice none 0 0], []⟩ 8 (by kernel_rfl) (by kernel_rfl) (by kernel_rfl) (by kernel_rfl)) ?_
  intro W base args ds gs before hval0 hW hcnd _
  have hval : ∀ (j : Nat) t v, Try.f3.params[j]? = some t → args[j]? = some v → Value.okWide Try.prog W .any base t v := hval0
  have hW' := hW
  obtain ⟨p, q, hA0, hV, rfl, hfz, hnd⟩ := hW
  have hA : DataW.TrodAll enc Try.prog W 0 (fun _ => true) true Try.f3.params.toList args.toList ds p := hA0
  rw [Try.params3] at hA hval
  have hAk := hA
  obtain ⟨v0, vs0, d0, ds0, p0', q0, hargs, rfl, rfl, h0, r0⟩ := trodAll_cons hA
  obtain ⟨v1, vs1, d1, ds1, p1', q1, rfl, rfl, rfl, h1, r1⟩ := trodAll_cons r0
  obtain ⟨rfl, rfl, rfl⟩ := trodAll_nil r1
  obtain rfl : args = #[v0, v1] := by cases args; simp_all
  obtain ⟨rfl, rfl⟩ := trodVars_none hV
  simp only [List.append_nil] at hW' hAk
  have hlt := fun x hx => hW'.lt x hx
  clear hA0 hval0
  obtain ⟨p0, n0, c0, l0, rfl, S0, b0⟩ := open_bytes (okWide_slice Try.underlying22 (hval 0 22 v0 rfl rfl)) h0
  obtain ⟨p1, n1, c1, l1, rfl, S1, b1⟩ := open_bytes (okWide_slice Try.underlying22 (hval 1 22 v1 rfl rfl)) h1
  refine (walk W p0 n0 c0 l0 S0 b0 p1 n1 c1 l1 S1 b1).mono fun e W' ⟨he, hg⟩ => ?_
  subst he
  have hargs := trodAll_below hg _ _ _ _ (by intro t ht; simp only [List.mem_cons, List.not_mem_nil, or_false] at ht; revert t; rintro t (rfl | rfl) <;> exact ⟨by kernel_rfl, of_decide_eq_true (by kernel_rfl)⟩) hAk (fun x hx => by simpa using hlt x hx)
  exact ⟨_, rfl, _, _, _, [], _, [], hW', (trodAll_cons_mk (shut_bool Try.underlying4 _) trodAll_mk0), hargs, rfl, hg.frame _, fun h => by cases h⟩

theorem over : Rows.sumLinearRow.holds Try.pinned (OpenSpec.ofChange Rows.sumLinearSpec) :=
  OpenClaim.holds_of_wide 3 Try.f3 rfl rfl rfl rfl rfl rfl rfl ⟨rfl, rfl, rfl, rfl, rfl⟩ rfl rfl rfl rfl rfl (by kernel_rfl) Try.func3 (by kernel_rfl)
    (of_decide_eq_true (by kernel_rfl)) (by unfold Func.isWrapper; first | (rw [if_pos (by decide +kernel)]; kernel_rfl) | (rw [if_neg (by decide +kernel)]; exact ⟨rfl, rfl⟩))
    (fun os started H enc _ => lifted os started H enc)

theorem proved : Rows.SumLinearSaid :=
  over
end Go.Proofs.Ytbdigpfeedcgaaa.sumLinear
