/- What set.Pairs hands back, gone over. -/
import Derived.Test.YtndbpmhdpjlncaaDoorPairs1
namespace Go.Proofs.YtndbpmhdpjlncaaDoor
open Go.RowKit Go.Shelf

attribute [local go_sem] Oper.semAt_some

set_option maxRecDepth 100000 in
set_option maxHeartbeats 100000000 in
/-- What set.Pairs hands back goes on as said. -/
theorem pairs1B (Bs Bk n0 s : Nat) (v : Value) (zs : List Int) (hs : s < 18446744073709551616) (hn8 : 8 ≤ n0) (w : World) (hn0 : n0 ≤ w.heap.size) (hBs : Bs < n0) (hBk : Bk < n0) (hl : zs.length ≤ 1048576)
    (hcs : w.cell? ⟨Bs, 0, none⟩ = some (.int .u64 s)) (hck : w.cell? ⟨Bk, 0, none⟩ = some v) (hv : Sl (Value.int .u8) n0 w v zs) (hE : Env w) :
    SeqO Fence.wide 2 Tryd.prog 65 #[.pointer (some ⟨Bs, 0, none⟩), .pointer (some ⟨Bk, 0, none⟩)] (fun x : Nat × Int => #[encI x.1, .int .u8 x.2]) n0 1 [] (fun ys => ys = pl s zs) (fun pre => pre <+: pl s zs) w := fun l J Jx W hW hJ hJx _ _ hY h0 => by
  have hcs' := (hW.cell (p := ⟨Bs, 0, none⟩) (show Bs < _ by omega)).trans hcs
  have hck' := (hW.cell (p := ⟨Bk, 0, none⟩) (show Bk < _ by omega)).trans hck
  have hv' : Sl (Value.int .u8) n0 W v zs := hv.below (hW.mono hn0)
  have hEW := hE.below hW hE.size
  have hn0W : n0 ≤ W.heap.size := Nat.le_trans hn0 hW.size
  obtain ⟨pa, pc, rfl⟩ := Sl.slice hv'
  obtain ⟨s2, hs2⟩ : ∃ s2, s &&& fullN zs.length = s2 := ⟨_, rfl⟩
  have hs2l : s2 < 18446744073709551616 := by rw [← hs2]; exact Nat.lt_of_le_of_lt Nat.and_le_left hs
  have HAND : Hid (bits .and .u64 (s : Int) ((fullN zs.length : Nat) : Int) = ((s2 : Nat) : Int)) := Lib.hid (by rw [u64_and_nat _ _ hs (fullN_lt _), hs2])
  have HI := Lib.hid (fun w => callsIn_wide.1 (items_in Fence.wide 2 (fun _ => trivial) rfl s2 w))
  refine callsIn_of_wp_marks Tryd.func65 rfl trivial ?_ rfl
  simp only [Tryd.ntmps65, List.size_toArray, List.length_cons, List.length_nil, Nat.reduceAdd, Nat.reduceSub, Array.replicate_succ, Array.replicate_zero, List.push_toArray, List.append_toArray, List.nil_append, List.cons_append]
  have hmx : Tryd.prog.follows .mixedOrders = true := by kernel_rfl
  obtain ⟨N, hN⟩ : ∃ N, zs.length = N := ⟨_, rfl⟩
  rw [hN] at hck' HAND hl
  have HN := Lib.hid hN
  have hB0 : Below W.heap.size W (W.alloc (.cells #[.func (.yield l) #[] #[]] 90)) := (Below.refl _ W).alloc (Nat.le_refl _) _
  have hcs2 := (hB0.cell (p := ⟨Bs, 0, none⟩) (show Bs < _ by omega)).trans hcs'
  have hck2 := (hB0.cell (p := ⟨Bk, 0, none⟩) (show Bk < _ by omega)).trans hck'
  have HS2 := Lib.hid hs2
  have HM : Hid (∀ x, x ∈ items s2 → x < N) := Lib.hid (fun x hx => by rw [← hs2, hN] at hx; exact full_item hx)
  clear hN hs2
  have hc2 : (((W.alloc (.cells #[.func (.yield l) #[] #[]] 90)).alloc (.cells #[.int .u64 s2] 22)).drew).cell? ⟨W.heap.size + 1, 0, none⟩ = some (.int .u64 s2) := by
    have := cell_new_row (W.alloc (.cells #[.func (.yield l) #[] #[]] 90)) #[.int .u64 s2] 22 0
    rw [World.size_alloc] at this; exact this
  have hB2 : Below W.heap.size W (((W.alloc (.cells #[.func (.yield l) #[] #[]] 90)).alloc (.cells #[.int .u64 s2] 22)).drew) := (hB0.alloc (by simp) _).drew
  have hE2 := hEW.below hB2 hEW.size
  have hbl2 : Below n0 W (((W.alloc (.cells #[.func (.yield l) #[] #[]] 90)).alloc (.cells #[.int .u64 s2] 22)).drew) := hB2.mono hn0W
  have hbx2 : Boxed (((W.alloc (.cells #[.func (.yield l) #[] #[]] 90)).alloc (.cells #[.int .u64 s2] 22)).drew) W.heap.size 90 (.func (.yield l) #[] #[]) := (Boxed.new W _ _).alloc _
  have hJ2 : J (([] : List Nat).map (at_ zs)) (((W.alloc (.cells #[.func (.yield l) #[] #[]] 90)).alloc (.cells #[.int .u64 s2] 22)).drew) := hJ _ _ _ none (hJ.alloc _ (hJ.alloc _ h0)) (grownBy_drew _) (fun r e => by cases e)
  have hand := HAND.out
  have HC2 := Lib.hid hc2; clear hc2
  gi_wp2
  refine wpIn_mono (Q := Exit.then (fun a1 w1 => a1 = { tmps := #[.func (.yield l) #[] #[], .pointer (some ⟨Bs, 0, none⟩), .pointer (some ⟨Bk, 0, none⟩), .pointer (some ⟨W.heap.size, 0, none⟩), undef, .int .u64 s, .slice pa N pc, .int .i64 N, .int .u64 (fullN N : Nat), .int .u64 s2, .func (.func 59) #[] #[.pointer (some ⟨W.heap.size + 1, 0, none⟩)], undef, undef, undef, undef, undef, undef, undef, undef, undef], defers := [] } ∧ w1 = ((W.alloc (.cells #[.func (.yield l) #[] #[]] 90)).alloc (.cells #[.int .u64 s2] 22)).drew) (fun _ _ _ => False)) ?first ?rest
  case first =>
    gi_region_with_o (first | (refine ⟨trivial, ?_⟩; gi_at_call 22; refine (callsIn_wide.2 (full_any N _ (by omega) (by omega))).mono ?_; rintro e w' ⟨rfl, rfl⟩) | (refine ⟨trivial, ?_⟩; gi_at_call 38; refine (callsIn_wide.2 (HI.out _)).mono ?_; rintro e w' ⟨rfl, rfl⟩))
    all_goals (first | exact ⟨rfl, rfl⟩ | (gi_wp2; exact ⟨rfl, rfl⟩))
  case rest =>
    rintro e a1 w1 h
    cases e with
    | normal =>
      obtain ⟨rfl, rfl⟩ := h
      rename_i hK
      refine hK _ _ ?_
      clear hK
      gi_wp2
      refine rangeO rfl (by omega) (gf := 59) (lb := #[.pointer (some ⟨W.heap.size + 1, 0, none⟩)]) rfl trivial (enters_of Tryd.func59 (by kernel_rfl) rfl)
        (items_seq Fence.wide 1 (fun _ => trivial) (fun h => callsIn_wide.2 h) rfl (by omega) (W.heap.size + 1) n0 s2 hs2l hn8 _ (by simp) HC2.out hE2) (fun _ h => by cases h) (by simp; omega) (Below.refl _ _) (fun _ => rfl)
        (fun pre W' => (J (pre.map (at_ zs)) W' ∧ Boxed W' W.heap.size 90 (.func (.yield l) #[] #[])) ∧ Below n0 W W')
        (fun c pre W' => c = .ret ∧ Jx (pre.map (at_ zs)) W')
        (OwnFrom.and (OwnFrom.and (fun pre A B row h hg hr => OwnFrom.le hJ (by simp; omega) (pre.map (at_ zs)) A B row h hg hr) (Own.from (boxed_own _ _ (fun _ : List Nat => Value.func (.yield l) #[] #[])) _)) (ownFrom_below hn0W (by simp; omega)))
        (fun c pre A B row h hg hr => ⟨h.1, OwnFrom.le hJx (by simp; omega) (pre.map (at_ zs)) A B row h.2 hg hr⟩)
        (AbidesCells.nil _) (fun _ => AbidesCells.nil _) ⟨⟨hJ2, hbx2⟩, hbl2⟩
        (fun x => { tmps := #[.func (.yield l) #[] #[], .pointer (some ⟨Bs, 0, none⟩), .pointer (some ⟨Bk, 0, none⟩), .pointer (some ⟨W.heap.size, 0, none⟩), .int .i64 x, .int .u64 s, .slice pa N pc, .int .i64 N, .int .u64 (fullN N : Nat), .int .u64 s2, .func (.func 59) #[] #[.pointer (some ⟨W.heap.size + 1, 0, none⟩)], .int .i64 x, undef, undef, undef, undef, undef, undef, undef, undef], defers := [] }) ?assign ?body ?done ?stop
      case assign =>
        intro l2 x W' K hK
        gi_wp2
        exact hK
      case body =>
        rintro l2 pre x Wb ⟨⟨hj, hbx⟩, hbl⟩ hp _
        have hm := HM.out x (hp.subset (by simp))
        obtain ⟨z, hz⟩ : ∃ z, zs[x]? = some z := ⟨zs[x]'(by rw [HN.out]; exact hm), List.getElem?_eq_getElem _⟩
        have hcb := (hbl.cell (p := ⟨Bk, 0, none⟩) hBk).trans hck'
        have hvb := hv'.below hbl
        obtain ⟨b, off, rfl⟩ : ∃ b off, pa = some ⟨b, off, none⟩ := by
          rcases hvb with ⟨e, e2⟩ | ⟨b, off, cap, e, _⟩
          · subst e2; cases hz
          · cases e; exact ⟨_, _, rfl⟩
        have hce := hvb.cell.2.2 x z hz
        have hx0 : (0 : Int) ≤ x := by omega
        have hxN : (x : Int) < N := by omega
        have hcx := hbx.cell
        have hya := hY (pre.map (at_ zs)) (at_ zs x) Wb.drew (hJ _ _ _ none hj (grownBy_drew Wb) (fun r e => by cases e)) (by rw [pl_eq, HS2.out]; have := hp.map (at_ zs); rw [List.map_append] at this; exact this) (show W.heap.size + 1 ≤ Wb.heap.size from hbx.lt)
        have hyb := YieldAt.mono (yieldAny rfl 0 l2 hya) (R' := fun e W' => ∃ bb : Bool, e = .returned (.bool bb) ∧ KeepsFrom W.heap.size Wb.drew W' ∧ (bb = true → J (pre.map (at_ zs) ++ [at_ zs x]) W' ∧ Below n0 Wb.drew W' ∧ ∀ k, W.heap.size ≤ k → k < W.heap.size + 1 → W'.heap[k]? = Wb.drew.heap[k]?) ∧ (bb = false → Jx (pre.map (at_ zs) ++ [at_ zs x]) W')) (by
          rintro e W' ⟨h1, ⟨rfl, h2, h3, h4, _⟩ | ⟨rfl, h2⟩⟩
          · exact ⟨true, rfl, h1, (fun _ => ⟨h2, h3, h4⟩), (fun h => by cases h)⟩
          · exact ⟨false, rfl, h1, (fun h => by cases h), (fun _ => h2)⟩)
        obtain ⟨fn, tmps, assign, body, hy, hR⟩ := hyb
        have hav : (at_ zs x).2 = z := by simp [at_, hz]
        dsimp only [encI, at_] at hy
        rw [show zs[x]?.getD 0 = z from by rw [hz]; rfl] at hy
        have HQ := Lib.hid hya; clear hya hY h0 hJ hJx hcs hck hv hE hW hEW hcs' hck' hv' hvb hcs2 hck2 hB0 hB2 hE2 hbl2 hbx2 hJ2 hand HC2 HI HAND hp hz hav HQ hm hj hs hs2l hl hn8 hBs hBk HS2 HM HN
        gi_wp2
        refine wpIn_mono (Q := Exit.then (fun a1 w1 => ∃ bb : Bool, a1 = { tmps := #[.func (.yield l) #[] #[], .pointer (some ⟨Bs, 0, none⟩), .pointer (some ⟨Bk, 0, none⟩), .pointer (some ⟨W.heap.size, 0, none⟩), .int .i64 x, .int .u64 s, .slice (some ⟨b, off, none⟩) N pc, .int .i64 N, .int .u64 (fullN N : Nat), .int .u64 s2, .func (.func 59) #[] #[.pointer (some ⟨W.heap.size + 1, 0, none⟩)], .int .i64 x, .func (.yield l) #[] #[], .int .i64 x, .slice (some ⟨b, off, none⟩) N pc, .int .i64 x, .pointer (some ⟨b, off + x, none⟩), .int .u8 z, .bool bb, .bool !bb], defers := [] } ∧ KeepsFrom W.heap.size Wb.drew w1 ∧ (bb = true → J (pre.map (at_ zs) ++ [at_ zs x]) w1 ∧ Below n0 Wb.drew w1 ∧ ∀ k, W.heap.size ≤ k → k < W.heap.size + 1 → w1.heap[k]? = Wb.drew.heap[k]?) ∧ (bb = false → Jx (pre.map (at_ zs) ++ [at_ zs x]) w1)) (fun _ _ _ => False)) ?bfirst ?brest
        case bfirst =>
          gi_region_with_o (refine ⟨rfl, ?_⟩; refine hR.mono ?_; rintro e W3 ⟨bb, rfl, hq1, hq2, hq3⟩)
          all_goals (first | exact ⟨_, rfl, by assumption, by assumption, by assumption⟩ | (gi_wp2; exact ⟨_, rfl, by assumption, by assumption, by assumption⟩))
        case brest =>
          rintro e a1 w1 h
          cases e with
          | normal =>
            obtain ⟨bb, rfl, hq1, hq2, hq3⟩ := h
            rename_i hK
            refine hK _ _ ?_
            clear hK
            have hKF : KeepsFrom W.heap.size Wb w1 := ((KeepsOthers.drew Wb).from _).trans hq1
            cases bb with
            | true =>
              obtain ⟨hj3, hb3, hp3⟩ := hq2 rfl
              have hb4 : Below n0 Wb w1 := ((Below.refl n0 Wb).drew).trans hb3
              gi_wp2
              exact ⟨KeepsFrom.raise hKF (by omega), ⟨hb4, (fun k h1 h2 => by omega), (fun k h => by cases h)⟩, ⟨⟨by rw [List.map_append]; exact hj3, (hp3 _ (Nat.le_refl _) (by omega)).trans hbx⟩, hbl.trans hb4⟩⟩
            | false =>
              have hj3 := hq3 rfl
              gi_wp2
              exact ⟨KeepsFrom.raise hKF (by omega), rfl, by rw [List.map_append]; exact hj3⟩
          | ret => exact h.elim
          | exit id => exact h.elim
          | goto t => exact h.elim
          | panic ch => exact h.elim
          | outgrown => exact h.elim
      case done =>
        rintro D ys W' hD rfl ⟨⟨hj, hbx⟩, hbl⟩ hK
        gi_wp2
        refine ⟨by simp, .inl ⟨_, _, rfl, run_takeDeferred hK, ?_⟩⟩
        refine ⟨_, results_none rfl _ _ _, ⟨_, rfl⟩, .inl ⟨_, rfl, ?_⟩⟩
        rw [pl_eq, HS2.out]
        exact hJ.putObj _ hj (by simp at hD; omega) hK rfl
      case stop =>
        rintro D c pre W' hD hp ⟨rfl, hj⟩ hK
        gi_wp2
        refine ⟨by simp, .inl ⟨_, _, rfl, run_takeDeferred hK, ?_⟩⟩
        refine ⟨_, results_none rfl _ _ _, ⟨_, rfl⟩, .inr ⟨_, ?_, hJx.putObj _ hj (by simp at hD; omega) hK rfl⟩⟩
        rw [pl_eq, HS2.out]
        exact hp.map _
    | ret => exact h.elim
    | exit id => exact h.elim
    | goto t => exact h.elim
    | panic ch => exact h.elim
    | outgrown => exact h.elim

end Go.Proofs.YtndbpmhdpjlncaaDoor
