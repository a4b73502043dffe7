/- The document's Subsets is the list of the subsets, by rising numbers. -/
import Derived.Test.YtndbpmhdpjlncaaDoorSubsB
namespace Go.Proofs.YtndbpmhdpjlncaaDoor
open Go.RowKit Go.Shelf
set_option linter.unusedVariables false
attribute [local go_sem] Oper.semAt_some

def subsTo (s k : Nat) : List Nat := (List.range k).map (sub s)
theorem subsTo_len (s k : Nat) : (subsTo s k).length = k := by simp [subsTo]
theorem subsTo_succ (s k : Nat) : subsTo s (k + 1) = subsTo s k ++ [sub s k] := subs_snoc s k
theorem subsTo_get {s k m : Nat} (h : k < m) : (subsTo s m)[k]? = some (sub s k) := by simp [subsTo, h]

set_option maxRecDepth 100000 in
set_option maxHeartbeats 4000000 in
theorem refSubsets_any (s : Nat) (w : World) (hs : s < 18446744073709551616) (hc : cnt s ≤ 10) :
    Calls Tryd.prog 31 #[.int .u64 s] w fun e w' => ∃ v, e = .returned v ∧ w'.ownsRow w.heap.size 22 1 v (subsN s) ((subs s).map encU) ∧ Below w.heap.size w w' := by
  have hN : (items s).length ≤ 10 := hc
  obtain ⟨N, hNe⟩ : ∃ N, (items s).length = N := ⟨_, rfl⟩
  have hO0 : (w.alloc (.cells #[.int .u64 0] 22)).ownsRow w.heap.size 22 1 (.slice (some ⟨w.heap.size, 0, none⟩) 1 1) 1 ((subsTo s 1).map encU) := by
    have e : (subsTo s 1).map encU = [Value.int .u64 0] := by simp [subsTo, encU, sub_zero]
    rw [e]
    exact ⟨rfl, .inr ⟨w.heap.size, 1, #[.int .u64 0], rfl, Nat.le_refl _, World.alloc_heap_new w _, Nat.le_refl _, by decide, rfl, rfl⟩⟩
  have HO0 := Lib.hid hO0
  have HB0 := Lib.hid ((Below.refl w.heap.size w).alloc (Nat.le_refl _) (.cells #[.int .u64 0] 22))
  have HNE := Lib.hid hNe
  rw [hNe] at hN
  clear hO0 hNe hc
  go_enter Tryd.func31, Tryd.ntmps31
  go_wp2_with (go_at_call 15; refine (refList_any s _ hs).mono ?_; rintro e W1 ⟨lv, rfl, hl1, hb1⟩; obtain ⟨la, lc, rfl⟩ := own_form hl1)
  rw [HNE.out] at hl1 ⊢
  have hL0 : W1.ownsRow w.heap.size 3 1 (.slice la N lc) N ((items s).map encI) := own_base hl1 (by simp)
  have hO1 := own_below HO0.out hb1 (Nat.le_refl _)
  have hB1 := HB0.out.trans (hb1.mono (by simp))
  clear hl1 hb1
  go_loopw [3, 5] (fun r i wr => ∃ k : Nat, k ≤ N ∧ i = .int .i64 k ∧ wr.ownsRow w.heap.size 22 1 r (2 ^ k) ((subsTo s (2 ^ k)).map encU) ∧ wr.ownsRow w.heap.size 3 1 (.slice la N lc) N ((items s).map encI) ∧ Below w.heap.size w wr) (fun _ i _ => N - (intOf i).toNat)
  case atStart => exact ⟨0, Nat.zero_le _, rfl, hO1, hL0, hB1⟩
  case round =>
    obtain ⟨i, hi, rfl, hO, hL, hB⟩ := hrel
    have hpow : 2 ^ i ≤ 1024 := Nat.le_trans (Nat.pow_le_pow_right (by decide) (show i ≤ 10 by omega)) (by decide)
    obtain ⟨T, hT⟩ : ∃ T, 2 ^ i = T := ⟨_, rfl⟩
    have HT := Lib.hid hT
    rw [hT] at hO hpow
    obtain ⟨ra, rc, rfl⟩ := own_form hO
    clear hT
    by_cases hlt : i < N
    · have hO' := hO
      have hL' := hL
      have hB' := hB
      have HO := Lib.hid hO
      have HL := Lib.hid hL
      have HB := Lib.hid hB
      clear hO hL hB hO' hL' hB' hO1 hL0 hB1
      go_wp2
      go_loopw [3, 7] (fun r i2 wr => ∃ k : Nat, k ≤ T ∧ i2 = .int .i64 k ∧ wr.ownsRow w.heap.size 22 1 r (T + k) ((subsTo s (T + k)).map encU) ∧ wr.ownsRow w.heap.size 3 1 (.slice la N lc) N ((items s).map encI) ∧ Below w.heap.size w wr) (fun _ i2 _ => T - (intOf i2).toNat)
      case atStart => exact ⟨0, Nat.zero_le _, rfl, HO.out, HL.out, HB.out⟩
      case round =>
        obtain ⟨k, hk, rfl, hO, hL, hB⟩ := hrel
        by_cases hlk : k < T
        · obtain ⟨oa, oc, rfl⟩ := own_form hO
          obtain ⟨og, rfl⟩ := own_some hO (by omega)
          obtain ⟨lg, rfl⟩ := own_some hL (by omega)
          obtain ⟨x, hxk⟩ : ∃ x, (items s)[i]? = some x := ⟨(items s)[i]'(by rw [HNE.out]; exact hlt), List.getElem?_eq_getElem _⟩
          have hx64 : x < 64 := items_lt (List.mem_of_getElem? hxk)
          have hadd : sub s (T + k) = sub s k + 2 ^ x := by have h := sub_add hxk (k := k) (by rw [HT.out]; exact hlk); rw [HT.out] at h; exact h
          have hlt64 := sub_lt (k := T + k) hs
          have HONE := Lib.hid (fun w => one_any x w hx64)
          obtain ⟨p, hp⟩ : ∃ p, 2 ^ x = p := ⟨_, rfl⟩
          obtain ⟨y, hy⟩ : ∃ y, sub s k = y := ⟨_, rfl⟩
          rw [hp] at hadd HONE
          rw [hy] at hadd
          have hwrap : IntKind.u64.wrap ((y : Int) + (p : Int)) = ((y + p : Nat) : Int) := by rw [IntKind.wrap_u64]; omega
          have hcy : ∀ W2 : World, W2.ownsRow w.heap.size 22 1 (.slice (some ⟨og, 0, none⟩) (T + k) oc) (T + k) ((subsTo s (T + k)).map encU) → W2.cell? ⟨og, 0 + k, none⟩ = some (.int .u64 (y : Nat)) := fun W2 h => own_cell h (by rw [List.getElem?_map, subsTo_get (by omega), hy]; rfl)
          have hcx : ∀ W2 : World, W2.ownsRow w.heap.size 3 1 (.slice (some ⟨lg, 0, none⟩) N lc) N ((items s).map encI) → W2.cell? ⟨lg, 0 + i, none⟩ = some (.int .i64 (x : Nat)) := fun W2 h => own_cell h (by rw [List.getElem?_map, hxk]; rfl)
          have hrow : ∀ (W2 : World) (u : Value), W2.ownsRow w.heap.size 22 1 u (T + k + 1) ((subsTo s (T + k)).map encU ++ [.int .u64 ((y + p : Nat) : Int)]) → W2.ownsRow w.heap.size 22 1 u (T + (k + 1)) ((subsTo s (T + (k + 1))).map encU) := fun W2 u h => by
            rw [show T + (k + 1) = T + k + 1 from rfl, subsTo_succ, List.map_append, hadd]; exact h
          simp only [Nat.zero_add] at hcy hcx
          have HCY := Lib.hid hcy
          have HCX := Lib.hid hcx
          have HROW := Lib.hid hrow
          have HWR := Lib.hid hwrap
          obtain ⟨yl, hyl⟩ : ∃ yl, (items s).map encI = yl := ⟨_, rfl⟩
          obtain ⟨xl, hxl⟩ : ∃ xl, (subsTo s (T + k)).map encU = xl := ⟨_, rfl⟩
          obtain ⟨i0, hi0, hz0, hz1, hz2⟩ := info_parts infoU
          rw [hxl] at hO HCY HROW
          rw [hyl] at hL HCX
          have HYL := Lib.hid hyl
          have hl1 : ∀ g', (Value.slice (some ⟨og, 0, none⟩) (T + k) oc).ownBlock = some g' → g' < wr.heap.size := fun g' hg => (World.ownsRow.lt hO g' hg).2
          have HL1 := Lib.hid hl1
          have hG0 : SG w wr.heap.size w.heap.size (.slice (some ⟨og, 0, none⟩) (T + k) oc) (.slice (some ⟨lg, 0, none⟩) N lc) (T + k) N xl yl (.int .u64 ((y + p : Nat) : Int)) (fun _ => false) (fun j => [u24, u25, u26, u27, u28, u29, u30, u31, u32, u33, u34, u35, u36, .slice (some ⟨og, 0, none⟩) (T + k) oc].getD j undef) wr :=
            ⟨Nat.le_refl _, hB.size, hB, fun _ => hO, hL, fun _ => rfl, (fun p _ e => by cases e), (fun e => by cases e)⟩
          have HG0 := Lib.hid hG0
          clear hO hL hB hxk hadd hp hy hwrap hcy hcx hrow hyl hxl hG0 hl1
          go_upto_region 10 with fail
          refine region_invV (l := _) (by kernel_rfl) (by decide +kernel) (fun v => { tmps := #[Value.int IntKind.u64 (s : Int), undef, Value.slice none 0 0, v 13, Value.slice (some ⟨lg, 0, none⟩) N lc, Value.int IntKind.i64 (i : Int), Value.int IntKind.i64 (T : Int), Value.int IntKind.i64 (k : Int), Value.slice (some ⟨w.heap.size, 0, none⟩) 1 1, Value.int IntKind.u64 (s : Int), Value.slice (some ⟨lg, 0, none⟩) N lc, Value.int IntKind.i64 (i : Int), Value.slice (some ⟨lg, 0, none⟩) N lc, Value.int IntKind.i64 (N : Int), Value.bool true, u15, u16, Value.slice ra T rc, Value.int IntKind.i64 (T : Int), Value.int IntKind.i64 (k : Int), Value.int IntKind.i64 (T : Int), Value.bool true, u22, u23, v 0, v 1, v 2, v 3, v 4, v 5, v 6, v 7, v 8, v 9, v 10, v 11, v 12, undef], defers := [] }) (SG w wr.heap.size w.heap.size (.slice (some ⟨og, 0, none⟩) (T + k) oc) (.slice (some ⟨lg, 0, none⟩) N lc) (T + k) N xl yl (.int .u64 ((y + p : Nat) : Int))) (SV wr.heap.size w.heap.size (.slice (some ⟨og, 0, none⟩) (T + k) oc) (.slice (some ⟨lg, 0, none⟩) N lc) ⟨og, k, none⟩ ⟨lg, i, none⟩ k i x y p (T + k) xl (.int .u64 ((y + p : Nat) : Int))) (SE wr.heap.size) SV.keep (fun j => [u24, u25, u26, u27, u28, u29, u30, u31, u32, u33, u34, u35, u36, .slice (some ⟨og, 0, none⟩) (T + k) oc].getD j undef) HG0.out.drew ?hop ?hend
          case hop =>
            simp only [AllDoV]
            refine ⟨?o0, ?o1, ?o2, ?o3, ?o4, ?o5, ?o6, ?o7, ?o8, ?o9, ?o10, ?o11, ?o12, ?o13, trivial⟩
            all_goals intro L v W2 hG hLf hd Q hQ
            all_goals simp [Region.binds] at hd
            all_goals rw [if_pos (show Region.wanted _ _ = true from rfl)]
            case o0 =>
              have h13 : L 13 = false := by
                cases e : L 13 with
                | false => rfl
                | true => have h0 : L 0 = false := hLf; rw [hG.z (13, 0) (by simp) e] at h0; cases h0
              have HPp := Lib.hid (hG.p1 h13)
              go_wp2
              exact ⟨_, rfl, SE.refl _ _ _, HPp.out, hG.upd _ (by decide) (by decide) (by simp)⟩
            case o1 =>
              have h13 : L 13 = false := by
                cases e : L 13 with
                | false => rfl
                | true => have h0 : L 1 = false := hLf; rw [hG.z (13, 1) (by simp) e] at h0; cases h0
              have HPp := Lib.hid (hG.p1 h13)
              go_wp2
              exact ⟨_, rfl, SE.refl _ _ _, HPp.out, hG.upd _ (by decide) (by decide) (by simp)⟩
            case o2 =>
              go_wp2
              exact ⟨_, rfl, SE.refl _ _ _, rfl, hG.upd _ (by decide) (by decide) (by simp)⟩
            case o3 =>
              obtain ⟨⟨_, h1'⟩, _, h2'⟩ := hd
              have h1 : v 1 = .slice (some ⟨og, 0, none⟩) (T + k) oc := h1'
              have h2 : v 2 = .int .i64 (k : Nat) := h2'
              rw [h1, h2]
              go_wp2
              refine ⟨.pointer (some ⟨og, k, none⟩), ?_, SE.refl _ _ _, rfl, hG.upd _ (by decide) (by decide) (by simp)⟩
              simp [updV, h1, h2]
            case o4 =>
              have h12 : L 12 = false := by
                cases e : L 12 with
                | false => rfl
                | true => have h0 : L 4 = false := hLf; rw [hG.z (12, 4) (by simp) e] at h0; cases h0
              have h3 : v 3 = .pointer (some ⟨og, k, none⟩) := hd.2
              have hcz := HCY.out W2 (hG.o1 h12)
              rw [h3]
              go_wp2
              refine ⟨.int .u64 (y : Nat), ?_, SE.refl _ _ _, rfl, hG.upd _ (by decide) (by decide) (by simp)⟩
              simp [updV, h3]
            case o5 =>
              go_wp2
              exact ⟨_, rfl, SE.refl _ _ _, rfl, hG.upd _ (by decide) (by decide) (by simp)⟩
            case o6 =>
              go_wp2
              exact ⟨_, rfl, SE.refl _ _ _, rfl, hG.upd _ (by decide) (by decide) (by simp)⟩
            case o7 =>
              obtain ⟨⟨_, h5'⟩, _, h6'⟩ := hd
              have h5 : v 5 = .slice (some ⟨lg, 0, none⟩) N lc := h5'
              have h6 : v 6 = .int .i64 (i : Nat) := h6'
              rw [h5, h6]
              go_wp2
              refine ⟨.pointer (some ⟨lg, i, none⟩), ?_, SE.refl _ _ _, rfl, hG.upd _ (by decide) (by decide) (by simp)⟩
              simp [updV, h5, h6]
            case o8 =>
              have h7 : v 7 = .pointer (some ⟨lg, i, none⟩) := hd.2
              have hcz := HCX.out W2 hG.ol
              rw [h7]
              go_wp2
              refine ⟨.int .i64 (x : Nat), ?_, SE.refl _ _ _, rfl, hG.upd _ (by decide) (by decide) (by simp)⟩
              simp [updV, h7]
            case o9 =>
              have h8 : v 8 = .int .i64 (x : Nat) := hd.2
              rw [h8]
              go_wp2_with fail
              refine (HONE.out _).mono ?_
              rintro e w' ⟨rfl, rfl⟩
              go_wp2
              refine ⟨.int .u64 (p : Nat), ?_, SE.refl _ _ _, rfl, hG.upd _ (by decide) (by decide) (by simp)⟩
              simp [updV, h8]
            case o10 =>
              obtain ⟨⟨h4L, h4'⟩, _, h9'⟩ := hd
              have h4 : v 4 = .int .u64 (y : Nat) := h4'
              have h9 : v 9 = .int .u64 (p : Nat) := h9'
              rw [h4, h9]
              go_wp2
              refine ⟨.int .u64 ((y + p : Nat) : Int), ?_, SE.refl _ _ _, rfl, hG.upd _ (by decide) (by decide) (by simpa using h4L)⟩
              have hw := HWR.out
              rw [hw]
              simp [updV, h4, h9]
            case o11 =>
              obtain ⟨h10L, h10'⟩ := hd
              have h4L := hG.z (10, 4) (by simp) h10L
              have h10 : v 10 = .int .u64 ((y + p : Nat) : Int) := h10'
              have hA2 : (W2.alloc (.cells #[.int .u64 ((y + p : Nat) : Int)] 22)).heap[W2.heap.size]? = some (.cells #[.int .u64 ((y + p : Nat) : Int)] 22 (0, 0)) := World.alloc_heap_new W2 _
              have hsz := hG.bsz
              have HA2 := Lib.hid hA2
              clear hA2
              obtain ⟨yp, hyp⟩ : ∃ yp : Int, ((y + p : Nat) : Int) = yp := ⟨_, rfl⟩
              rw [hyp] at h10
              have HYP := Lib.hid hyp
              clear hyp
              rw [h10]
              go_wp2
              refine ⟨.slice (some ⟨W2.heap.size, 0, none⟩) 1 1, ?_, SE.alloc _ _ _ _, ⟨W2.heap.size, rfl, hsz, by rw [← HYP.out]; exact HA2.out⟩, (hG.alloc _).upd _ (by decide) (by decide) (by simpa using h4L)⟩
              simp [updV, h10]
            case o12 =>
              obtain ⟨⟨_, h0'⟩, ⟨h11L, b, hv11, hbz, hbc⟩, _⟩ := hd
              have h4L := hG.z (11, 4) (by simp) h11L
              have h0 : v 0 = .slice (some ⟨og, 0, none⟩) (T + k) oc := h0'
              have hsz := hG.bsz
              have hbs0 := hG.bs0
              have ho := hG.o1 hLf
              refine wpList_append_own_at _ rfl _ _ 42 rfl w.heap.size 22 i0 (.int .u64 0) 1 8 Tryd.underlying42 hi0 hz0 hz1 hz2 rfl (by decide) (v 0) (T + k) xl rfl (by rw [h0]; exact ho) ⟨b, 0, none⟩ 1 1 [.int .u64 ((y + p : Nat) : Int)] hv11 rfl (one_cellA hbc) (by simp [Value.oneCell']) (by unfold maxLen; omega) (by omega) (by omega) ?_
              intro v' W3 q1 q2 _ _
              rw [h0] at q2
              go_wp2
              exact ⟨v', by simp [updV, h0, hv11], SE.app ho HL1.out q2, q1, hG.app v' hLf h4L q2⟩
            case o13 =>
              obtain ⟨⟨h12L, h12'⟩, ⟨h0L, _⟩, ⟨h1L, _⟩, _⟩ := hd
              have h12 : W2.ownsRow w.heap.size 22 1 (v 12) (T + k + 1) (xl ++ [.int .u64 ((y + p : Nat) : Int)]) := h12'
              go_wp2
              exact ⟨v 12, rfl, SE.refl _ _ _, trivial, hG.set _ h0L h1L h12L h12⟩
          case hend =>
            intro L v W2 hG hv
            obtain ⟨_, r1⟩ := hG.y1 (hv 13 (by decide)).1
            have HR1 := Lib.hid (HROW.out W2 _ r1)
            have HOL := Lib.hid hG.ol
            have HBE := Lib.hid hG.bel
            clear r1 hG hv
            go_wp2
            go_roundw
            case rel => exact ⟨k + 1, by omega, by go_num, HR1.out, by rw [HYL.out]; exact HOL.out, HBE.out⟩
            case measure => simp [intOf]; omega
        · obtain rfl : k = T := by omega
          have h2 : 2 ^ (i + 1) = k + k := by rw [Nat.pow_succ, HT.out]; omega
          have HR : Hid (wr.ownsRow w.heap.size 22 1 u3 (2 ^ (i + 1)) ((subsTo s (2 ^ (i + 1))).map encU)) := Lib.hid (by rw [h2]; exact hO)
          clear h2 hO
          go_wp2
          exact ⟨⟨i + 1, by omega, by go_num, HR.out, hL, hB⟩, by simp [intOf]; omega⟩
    · obtain rfl : i = N := by omega
      go_wp2
      go_ret
      exact ⟨_, rfl, by rw [show subsN s = T from by rw [← HT.out, ← HNE.out]; rfl]; rw [show subs s = subsTo s T from by rw [← HT.out, ← HNE.out]; rfl]; exact hO, hB⟩
end Go.Proofs.YtndbpmhdpjlncaaDoor
