/- What set.Pairs hands back, gone over by rounds that write older blocks: only its own three blocks (its boxes, and its row) must stay. -/
import Derived.Test.YtndbpmhdpjlncaaDoorPairs1
namespace Go.Proofs.YtndbpmhdpjlncaaDoor
open Go.RowKit Go.Shelf

attribute [local go_sem] Oper.semAt_some

theorem sl_block {α : Type} {enc : α → Value} {n : Nat} {A B : World} {sv : Value} {xs : List α} (h : Sl enc n A sv xs) (hk : ∀ b off m c, sv = .slice (some ⟨b, off, none⟩) m c → B.heap[b]? = A.heap[b]?) : Sl enc n B sv xs := by
  rcases h with e | ⟨b, off, cap, e, hb, hcap, hc⟩
  · exact .inl e
  · exact .inr ⟨b, off, cap, e, hb, hcap, fun j x hj => (World.cell?_of_block (a := ⟨b, off + j, none⟩) (hk b off _ cap e)).trans (hc j x hj)⟩
/-- What lies low stays, and some blocks stay. -/
def Kp3 (bs : List Nat) (W W' : World) : Prop := Below 8 W W' ∧ ∀ k ∈ bs, W'.heap[k]? = W.heap[k]?
theorem own_kp3 {β : Type} {B : Nat} {bs : List Nat} {W : World} (h8 : 8 ≤ W.heap.size) (hB : W.heap.size ≤ B) (hb : ∀ k ∈ bs, k < W.heap.size) : OwnFrom B (fun (_ : β) W' => Kp3 bs W W') :=
  OwnFrom.and (ownFrom_below h8 (Nat.le_trans h8 hB)) (fun s A C row h hg hr k hk => by
    have hlt := hb k hk
    have hAl : k < A.heap.size := by
      have h1 := h k hk
      rw [Array.getElem?_eq_getElem hlt] at h1
      exact (Array.getElem?_eq_some_iff.1 h1).1
    exact (hg.block k hAl (fun e => by have := (hr k e.symm).1; omega)).trans (h k hk))

set_option maxRecDepth 100000 in
set_option maxHeartbeats 100000000 in
/-- What set.Pairs hands back goes on as said. -/
theorem pairs1R (Bs Bk g s : Nat) (v : Value) (zs : List Int) (hs : s < 18446744073709551616) (w : World) (h8 : 8 ≤ w.heap.size) (hBs : Bs < w.heap.size) (hBk : Bk < w.heap.size) (hg : g < w.heap.size) (hvg : ∀ b off m c, v = .slice (some ⟨b, off, none⟩) m c → b = g) (hl : zs.length ≤ 1048576)
    (hcs : w.cell? ⟨Bs, 0, none⟩ = some (.int .u64 s)) (hck : w.cell? ⟨Bk, 0, none⟩ = some v) (hv : Sl (Value.int .i64) w.heap.size w v zs) (hE : Env w) :
    SeqO Fence.wide 2 Tryd.prog 57 #[.pointer (some ⟨Bs, 0, none⟩), .pointer (some ⟨Bk, 0, none⟩)] (fun x : Nat × Int => #[encI x.1, .int .i64 x.2]) 8 1 [Bs, Bk, g] (fun ys => ys = pl s zs) (fun pre => pre <+: pl s zs) w := fun l J Jx W hW hJ hJx _ _ hY h0 => by
  have hcs' := (hW.cell (p := ⟨Bs, 0, none⟩) hBs).trans hcs
  have hck' := (hW.cell (p := ⟨Bk, 0, none⟩) hBk).trans hck
  have hv' : Sl (Value.int .i64) w.heap.size W v zs := hv.below hW
  have hzW := hW.size
  have hEW := hE.below hW hE.size
  have hn0W : 8 ≤ W.heap.size := Nat.le_trans h8 hW.size
  have hbsW : ∀ k ∈ [Bs, Bk, g], k < W.heap.size := by
    intro k hk
    simp only [List.mem_cons, List.not_mem_nil, or_false] at hk
    rcases hk with rfl | rfl | rfl <;> omega
  obtain ⟨pa, pc, rfl⟩ := Sl.slice hv'
  obtain ⟨s2, hs2⟩ : ∃ s2, s &&& fullN zs.length = s2 := ⟨_, rfl⟩
  have hs2l : s2 < 18446744073709551616 := by rw [← hs2]; exact Nat.lt_of_le_of_lt Nat.and_le_left hs
  have HAND : Hid (bits .and .u64 (s : Int) ((fullN zs.length : Nat) : Int) = ((s2 : Nat) : Int)) := Lib.hid (by rw [u64_and_nat _ _ hs (fullN_lt _), hs2])
  have HI := Lib.hid (fun w => callsIn_wide.1 (items_in Fence.wide 2 (fun _ => trivial) rfl s2 w))
  refine callsIn_of_wp_marks Tryd.func57 rfl trivial ?_ rfl
  simp only [Tryd.ntmps57, List.size_toArray, List.length_cons, List.length_nil, Nat.reduceAdd, Nat.reduceSub, Array.replicate_succ, Array.replicate_zero, List.push_toArray, List.append_toArray, List.nil_append, List.cons_append]
  have hmx : Tryd.prog.follows .mixedOrders = true := by kernel_rfl
  obtain ⟨N, hN⟩ : ∃ N, zs.length = N := ⟨_, rfl⟩
  rw [hN] at hck' HAND hl
  have HN := Lib.hid hN
  have hB0 : Below W.heap.size W (W.alloc (.cells #[.func (.yield l) #[] #[]] 86)) := (Below.refl _ W).alloc (Nat.le_refl _) _
  have hcs2 := (hB0.cell (p := ⟨Bs, 0, none⟩) (show Bs < _ by omega)).trans hcs'
  have hck2 := (hB0.cell (p := ⟨Bk, 0, none⟩) (show Bk < _ by omega)).trans hck'
  have HS2 := Lib.hid hs2
  have HM : Hid (∀ x, x ∈ items s2 → x < N) := Lib.hid (fun x hx => by rw [← hs2, hN] at hx; exact full_item hx)
  clear hN hs2
  have hc2 : (((W.alloc (.cells #[.func (.yield l) #[] #[]] 86)).alloc (.cells #[.int .u64 s2] 22)).drew).cell? ⟨W.heap.size + 1, 0, none⟩ = some (.int .u64 s2) := by
    have := cell_new_row (W.alloc (.cells #[.func (.yield l) #[] #[]] 86)) #[.int .u64 s2] 22 0
    rw [World.size_alloc] at this; exact this
  have hB2 : Below W.heap.size W (((W.alloc (.cells #[.func (.yield l) #[] #[]] 86)).alloc (.cells #[.int .u64 s2] 22)).drew) := (hB0.alloc (by simp) _).drew
  have hE2 := hEW.below hB2 hEW.size
  have hbl2 : Below 8 W (((W.alloc (.cells #[.func (.yield l) #[] #[]] 86)).alloc (.cells #[.int .u64 s2] 22)).drew) := hB2.mono hn0W
  have hk2 : ∀ k ∈ [Bs, Bk, g], (((W.alloc (.cells #[.func (.yield l) #[] #[]] 86)).alloc (.cells #[.int .u64 s2] 22)).drew).heap[k]? = W.heap[k]? := fun k hk => hB2.block k (hbsW k hk)
  have hbx2 : Boxed (((W.alloc (.cells #[.func (.yield l) #[] #[]] 86)).alloc (.cells #[.int .u64 s2] 22)).drew) W.heap.size 86 (.func (.yield l) #[] #[]) := (Boxed.new W _ _).alloc _
  have hJ2 : J (([] : List Nat).map (at_ zs)) (((W.alloc (.cells #[.func (.yield l) #[] #[]] 86)).alloc (.cells #[.int .u64 s2] 22)).drew) := hJ _ _ _ none (hJ.alloc _ (hJ.alloc _ h0)) (grownBy_drew _) (fun r e => by cases e)
  have hand := HAND.out
  have HC2 := Lib.hid hc2; clear hc2
  gi_wp2
  refine wpIn_mono (Q := Exit.then (fun a1 w1 => a1 = { tmps := #[.func (.yield l) #[] #[], .pointer (some ⟨Bs, 0, none⟩), .pointer (some ⟨Bk, 0, none⟩), .pointer (some ⟨W.heap.size, 0, none⟩), undef, .int .u64 s, .slice pa N pc, .int .i64 N, .int .u64 (fullN N : Nat), .int .u64 s2, .func (.func 59) #[] #[.pointer (some ⟨W.heap.size + 1, 0, none⟩)], undef, undef, undef, undef, undef, undef, undef, undef, undef], defers := [] } ∧ w1 = ((W.alloc (.cells #[.func (.yield l) #[] #[]] 86)).alloc (.cells #[.int .u64 s2] 22)).drew) (fun _ _ _ => False)) ?first ?rest
  case first =>
    gi_region_with_o (first | (refine ⟨trivial, ?_⟩; gi_at_call 22; refine (callsIn_wide.2 (full_any N _ (by omega) (by omega))).mono ?_; rintro e w' ⟨rfl, rfl⟩) | (refine ⟨trivial, ?_⟩; gi_at_call 38; refine (callsIn_wide.2 (HI.out _)).mono ?_; rintro e w' ⟨rfl, rfl⟩))
    all_goals (first | exact ⟨rfl, rfl⟩ | (gi_wp2; exact ⟨rfl, rfl⟩))
  case rest =>
    rintro e a1 w1 h
    cases e with
    | normal =>
      obtain ⟨rfl, rfl⟩ := h
      rename_i hK
      refine hK _ _ ?_
      clear hK
      gi_wp2
      refine rangeO rfl (by omega) (gf := 59) (lb := #[.pointer (some ⟨W.heap.size + 1, 0, none⟩)]) rfl trivial (enters_of Tryd.func59 (by kernel_rfl) rfl)
        (items_seq Fence.wide 1 (fun _ => trivial) (fun h => callsIn_wide.2 h) rfl (by omega) (W.heap.size + 1) 8 s2 hs2l (Nat.le_refl 8) _ (by simp) HC2.out hE2) (fun _ h => by cases h) (by simp; omega) (Below.refl _ _) (fun _ => rfl)
        (fun pre W' => (J (pre.map (at_ zs)) W' ∧ Boxed W' W.heap.size 86 (.func (.yield l) #[] #[])) ∧ Kp3 [Bs, Bk, g] W W')
        (fun c pre W' => c = .ret ∧ Jx (pre.map (at_ zs)) W')
        (OwnFrom.and (OwnFrom.and (fun pre A B row h hg hr => OwnFrom.le hJ (by simp; omega) (pre.map (at_ zs)) A B row h hg hr) (Own.from (boxed_own _ _ (fun _ : List Nat => Value.func (.yield l) #[] #[])) _)) (own_kp3 hn0W (by simp; omega) hbsW))
        (fun c pre A B row h hg hr => ⟨h.1, OwnFrom.le hJx (by simp; omega) (pre.map (at_ zs)) A B row h.2 hg hr⟩)
        (AbidesCells.nil _) (fun _ => AbidesCells.nil _) ⟨⟨hJ2, hbx2⟩, hbl2, hk2⟩
        (fun x => { tmps := #[.func (.yield l) #[] #[], .pointer (some ⟨Bs, 0, none⟩), .pointer (some ⟨Bk, 0, none⟩), .pointer (some ⟨W.heap.size, 0, none⟩), .int .i64 x, .int .u64 s, .slice pa N pc, .int .i64 N, .int .u64 (fullN N : Nat), .int .u64 s2, .func (.func 59) #[] #[.pointer (some ⟨W.heap.size + 1, 0, none⟩)], .int .i64 x, undef, undef, undef, undef, undef, undef, undef, undef], defers := [] }) ?assign ?body ?done ?stop
      case assign =>
        intro l2 x W' K hK
        gi_wp2
        exact hK
      case body =>
        rintro l2 pre x Wb ⟨⟨hj, hbx⟩, hbl, hk3⟩ hp _
        have hm := HM.out x (hp.subset (by simp))
        obtain ⟨z, hz⟩ : ∃ z, zs[x]? = some z := ⟨zs[x]'(by rw [HN.out]; exact hm), List.getElem?_eq_getElem _⟩
        have hcb := (World.cell?_of_block (a := ⟨Bk, 0, none⟩) (hk3 Bk (by simp))).trans hck'
        have hvb := sl_block hv' (B := Wb) (fun b off m c e => by rw [hvg b off m c e]; exact hk3 g (by simp))
        obtain ⟨b, off, rfl⟩ : ∃ b off, pa = some ⟨b, off, none⟩ := by
          rcases hvb with ⟨e, e2⟩ | ⟨b, off, cap, e, _⟩
          · subst e2; cases hz
          · cases e; exact ⟨_, _, rfl⟩
        have hce := hvb.cell.2.2 x z hz
        have hx0 : (0 : Int) ≤ x := by omega
        have hxN : (x : Int) < N := by omega
        have hcx := hbx.cell
        have hya := hY (pre.map (at_ zs)) (at_ zs x) Wb.drew (hJ _ _ _ none hj (grownBy_drew Wb) (fun r e => by cases e)) (by rw [pl_eq, HS2.out]; have := hp.map (at_ zs); rw [List.map_append] at this; exact this) (show W.heap.size + 1 ≤ Wb.heap.size from hbx.lt)
        have hyb := YieldAt.mono (yieldAny rfl 0 l2 hya) (R' := fun e W' => ∃ bb : Bool, e = .returned (.bool bb) ∧ KeepsFrom W.heap.size Wb.drew W' ∧ (bb = true → J (pre.map (at_ zs) ++ [at_ zs x]) W' ∧ Below 8 Wb.drew W' ∧ (∀ k, W.heap.size ≤ k → k < W.heap.size + 1 → W'.heap[k]? = Wb.drew.heap[k]?) ∧ ∀ k, k ∈ [Bs, Bk, g] → W'.heap[k]? = Wb.drew.heap[k]?) ∧ (bb = false → Jx (pre.map (at_ zs) ++ [at_ zs x]) W')) (by
          rintro e W' ⟨h1, ⟨rfl, h2, h3, h4, h5⟩ | ⟨rfl, h2⟩⟩
          · exact ⟨true, rfl, h1, (fun _ => ⟨h2, h3, h4, h5⟩), (fun h => by cases h)⟩
          · exact ⟨false, rfl, h1, (fun h => by cases h), (fun _ => h2)⟩)
        obtain ⟨fn, tmps, assign, body, hy, hR⟩ := hyb
        have hav : (at_ zs x).2 = z := by simp [at_, hz]
        dsimp only [encI, at_] at hy
        rw [show zs[x]?.getD 0 = z from by rw [hz]; rfl] at hy
        have HQ := Lib.hid hya; clear hya hY h0 hJ hJx hcs hck hv hE hW hEW hcs' hck' hv' hvb hcs2 hck2 hB0 hB2 hE2 hbl2 hbx2 hJ2 hand HC2 HI HAND hp hz hav HQ hm hj hs hs2l hl h8 hBs hBk hg hvg hk2 HS2 HM HN
        gi_wp2
        refine wpIn_mono (Q := Exit.then (fun a1 w1 => ∃ bb : Bool, a1 = { tmps := #[.func (.yield l) #[] #[], .pointer (some ⟨Bs, 0, none⟩), .pointer (some ⟨Bk, 0, none⟩), .pointer (some ⟨W.heap.size, 0, none⟩), .int .i64 x, .int .u64 s, .slice (some ⟨b, off, none⟩) N pc, .int .i64 N, .int .u64 (fullN N : Nat), .int .u64 s2, .func (.func 59) #[] #[.pointer (some ⟨W.heap.size + 1, 0, none⟩)], .int .i64 x, .func (.yield l) #[] #[], .int .i64 x, .slice (some ⟨b, off, none⟩) N pc, .int .i64 x, .pointer (some ⟨b, off + x, none⟩), .int .i64 z, .bool bb, .bool !bb], defers := [] } ∧ KeepsFrom W.heap.size Wb.drew w1 ∧ (bb = true → J (pre.map (at_ zs) ++ [at_ zs x]) w1 ∧ Below 8 Wb.drew w1 ∧ (∀ k, W.heap.size ≤ k → k < W.heap.size + 1 → w1.heap[k]? = Wb.drew.heap[k]?) ∧ ∀ k, k ∈ [Bs, Bk, g] → w1.heap[k]? = Wb.drew.heap[k]?) ∧ (bb = false → Jx (pre.map (at_ zs) ++ [at_ zs x]) w1)) (fun _ _ _ => False)) ?bfirst ?brest
        case bfirst =>
          gi_region_with_o (refine ⟨rfl, ?_⟩; refine hR.mono ?_; rintro e W3 ⟨bb, rfl, hq1, hq2, hq3⟩)
          all_goals (first | exact ⟨_, rfl, by assumption, by assumption, by assumption⟩ | (gi_wp2; exact ⟨_, rfl, by assumption, by assumption, by assumption⟩))
        case brest =>
          rintro e a1 w1 h
          cases e with
          | normal =>
            obtain ⟨bb, rfl, hq1, hq2, hq3⟩ := h
            rename_i hK
            refine hK _ _ ?_
            clear hK
            have hKF : KeepsFrom W.heap.size Wb w1 := ((KeepsOthers.drew Wb).from _).trans hq1
            cases bb with
            | true =>
              obtain ⟨hj3, hb3, hp3, hs3⟩ := hq2 rfl
              have hb4 : Below 8 Wb w1 := ((Below.refl 8 Wb).drew).trans hb3
              gi_wp2
              exact ⟨KeepsFrom.raise hKF (by omega), ⟨hb4, (fun k h1 h2 => by omega), (fun k h => by cases h)⟩, ⟨⟨by rw [List.map_append]; exact hj3, (hp3 _ (Nat.le_refl _) (by omega)).trans hbx⟩, hbl.trans hb4, fun k hk => (hs3 k hk).trans (hk3 k hk)⟩⟩
            | false =>
              have hj3 := hq3 rfl
              gi_wp2
              exact ⟨KeepsFrom.raise hKF (by omega), rfl, by rw [List.map_append]; exact hj3⟩
          | ret => exact h.elim
          | exit id => exact h.elim
          | goto t => exact h.elim
          | panic ch => exact h.elim
          | outgrown => exact h.elim
      case done =>
        rintro D ys W' hD rfl ⟨⟨hj, hbx⟩, hbl⟩ hK
        gi_wp2
        refine ⟨by simp, .inl ⟨_, _, rfl, run_takeDeferred hK, ?_⟩⟩
        refine ⟨_, results_none rfl _ _ _, ⟨_, rfl⟩, .inl ⟨_, rfl, ?_⟩⟩
        rw [pl_eq, HS2.out]
        exact hJ.putObj _ hj (by simp at hD; omega) hK rfl
      case stop =>
        rintro D c pre W' hD hp ⟨rfl, hj⟩ hK
        gi_wp2
        refine ⟨by simp, .inl ⟨_, _, rfl, run_takeDeferred hK, ?_⟩⟩
        refine ⟨_, results_none rfl _ _ _, ⟨_, rfl⟩, .inr ⟨_, ?_, hJx.putObj _ hj (by simp at hD; omega) hK rfl⟩⟩
        rw [pl_eq, HS2.out]
        exact hp.map _
    | ret => exact h.elim
    | exit id => exact h.elim
    | goto t => exact h.elim
    | panic ch => exact h.elim
    | outgrown => exact h.elim

end Go.Proofs.YtndbpmhdpjlncaaDoor
