/- set.Splits, pair by pair. -/
import Derived.Test.YtndbpmhdpjlncaaDoorRangeQ
import Derived.Test.YtndbpmhdpjlncaaDoorSplO
namespace Go.Proofs.YtndbpmhdpjlncaaDoor
open Go.RowKit Go.Shelf
set_option linter.unusedVariables false
attribute [local go_sem] Oper.semAt_some

/-- Some blocks stay. -/
def StB (bs : List Nat) (A B : World) : Prop := A.heap.size ≤ B.heap.size ∧ ∀ k ∈ bs, B.heap[k]? = A.heap[k]?
theorem StB.trans {bs : List Nat} {A B C : World} (h : StB bs A B) (k : StB bs B C) : StB bs A C := ⟨Nat.le_trans h.1 k.1, fun j hj => (k.2 j hj).trans (h.2 j hj)⟩
theorem StB.cell {bs : List Nat} {A B : World} (h : StB bs A B) {k : Nat} (hk : k ∈ bs) : B.cell? ⟨k, 0, none⟩ = A.cell? ⟨k, 0, none⟩ := World.cell?_of_block (a := ⟨k, 0, none⟩) (h.2 k hk)
theorem own_stb {β : Type} {B : Nat} {bs : List Nat} {W : World} (hB : W.heap.size ≤ B) (hb : ∀ k ∈ bs, k < W.heap.size) : OwnFrom B (fun (_ : β) W' => StB bs W W') := fun s A C row h hg hr =>
  ⟨Nat.le_trans h.1 hg.size, fun k hk => (hg.block k (Nat.lt_of_lt_of_le (hb k hk) h.1) (fun e => by have := (hr k e.symm).1; have := hb k hk; omega)).trans (h.2 k hk)⟩

set_option maxRecDepth 100000 in
set_option maxHeartbeats 4000000 in
theorem splits1 (Bs n0 s : Nat) (hs : s < 18446744073709551616) (w : World) (hBs : Bs < w.heap.size) (hc : w.cell? ⟨Bs, 0, none⟩ = some (.int .u64 s)) :
    SeqQ Fence.wide 2 Tryd.prog 61 #[.pointer (some ⟨Bs, 0, none⟩)] (fun x : Nat × Nat => #[.int .u64 (x.1 : Int), .int .u64 (x.2 : Int)]) n0 3 [Bs] (fun ys => ys = splitsL s) (fun pre => pre <+: splitsL s) w := fun l J Jx W hW hJ hJx hY h0 => by
  have hcs := (hW.cell (p := ⟨Bs, 0, none⟩) hBs).trans hc
  have hzW := hW.size
  have hBW : Bs < W.heap.size := Nat.lt_of_lt_of_le hBs hzW
  refine callsIn_of_wp_marks Tryd.func61 rfl trivial ?_ rfl
  simp only [Tryd.ntmps61, List.size_toArray, List.length_cons, List.length_nil, Nat.reduceAdd, Nat.reduceSub, Array.replicate_succ, Array.replicate_zero, List.push_toArray, List.append_toArray, List.nil_append, List.cons_append]
  have hB0 : Below W.heap.size W (W.alloc (.cells #[.func (.yield l) #[] #[]] 29)) := (Below.refl _ W).alloc (Nat.le_refl _) _
  have hc0 := (hB0.cell (p := ⟨Bs, 0, none⟩) hBW).trans hcs
  have hj0 := hJ.alloc (.cells #[.func (.yield l) #[] #[]] 29) h0
  have hY0 := Boxed.new W 29 (.func (.yield l) #[] #[])
  obtain ⟨W1, hW1⟩ : ∃ W1, W.alloc (.cells #[.func (.yield l) #[] #[]] 29) = W1 := ⟨_, rfl⟩
  have z1 : W1.heap.size = W.heap.size + 1 := by rw [← hW1]; simp
  rw [hW1] at hB0 hc0 hj0 hY0
  by_cases h00 : s = 0
  · subst h00
    have HJ0 := Lib.hid hj0
    have HS0 : Hid (splitsL 0 = []) := Lib.hid rfl
    gi_wp2
    exact ⟨_, results_none rfl _ _ _, ⟨_, rfl⟩, .inl (by rw [HS0.out]; exact HJ0.out)⟩
  · have hpos : 0 < s := by omega
    have HF := Lib.hid (fun w => first_any s 1 hs (by decide) w)
    rw [first_mask hs (cnt_pos hs hpos), show 2 ^ 1 - 1 = 1 from rfl] at HF
    have hlol := sub_lt (k := 1) hs
    have HSPL : Hid (splitsL s = (subs (restS s)).map (splP s)) := Lib.hid (if_neg h00)
    have hSP : ∀ x, splP s x = (x ||| sub s 1, s &&& (18446744073709551615 - (x ||| sub s 1))) := fun x => rfl
    have hrl0 := rest_low hs hpos
    have hrs := restS_lt hs
    obtain ⟨lo, hlo⟩ : ∃ lo, sub s 1 = lo := ⟨_, rfl⟩
    obtain ⟨r, hr⟩ : ∃ r, restS s = r := ⟨_, rfl⟩
    rw [hlo] at HF hlol hSP hrl0
    rw [hr] at HSPL hrl0 hrs
    have HSP := Lib.hid hSP
    have HRL : Hid (bits .andNot .u64 (s : Int) (lo : Int) = ((r : Nat) : Int)) := Lib.hid (by rw [u64_andNot_nat _ _ hs hlol, hrl0])
    have HSB := Lib.hid (fun W => subsets_in Fence.wide 1 (fun _ => trivial) rfl r W)
    obtain ⟨W2, hW2⟩ : ∃ W2, W1.alloc (.cells #[.int .u64 lo] 22) = W2 := ⟨_, rfl⟩
    obtain ⟨W3, hW3⟩ : ∃ W3, W2.alloc (.cells #[.int .u64 r] 22) = W3 := ⟨_, rfl⟩
    have z2 : W2.heap.size = W.heap.size + 1 + 1 := by rw [← hW2]; simp [z1]
    have z3 : W3.heap.size = W.heap.size + 1 + 1 + 1 := by rw [← hW3]; simp [z2]
    have b12 : Below W1.heap.size W1 W2 := by rw [← hW2]; exact (Below.refl _ _).alloc (Nat.le_refl _) _
    have b23 : Below W2.heap.size W2 W3 := by rw [← hW3]; exact (Below.refl _ _).alloc (Nat.le_refl _) _
    have l2 : W2.cell? ⟨W.heap.size + 1, 0, none⟩ = some (.int .u64 lo) := by rw [← z1, ← hW2]; exact cell_new_row _ _ _ 0
    have s2 : W2.cell? ⟨Bs, 0, none⟩ = some (.int .u64 s) := (b12.cell (p := ⟨Bs, 0, none⟩) (show Bs < W1.heap.size by omega)).trans hc0
    have l3 : W3.cell? ⟨W.heap.size + 1, 0, none⟩ = some (.int .u64 lo) := (b23.cell (p := ⟨W.heap.size + 1, 0, none⟩) (show W.heap.size + 1 < W2.heap.size by omega)).trans l2
    have s3 : W3.cell? ⟨Bs, 0, none⟩ = some (.int .u64 s) := (b23.cell (p := ⟨Bs, 0, none⟩) (show Bs < W2.heap.size by omega)).trans s2
    have r3 : W3.cell? ⟨W.heap.size + 1 + 1, 0, none⟩ = some (.int .u64 r) := by rw [← z2, ← hW3]; exact cell_new_row _ _ _ 0
    have y3 : Boxed W3 W.heap.size 29 (.func (.yield l) #[] #[]) := by rw [← hW3, ← hW2]; exact (hY0.alloc _).alloc _
    have j3 : J [] W3 := by rw [← hW3, ← hW2]; exact hJ.alloc _ (hJ.alloc _ hj0)
    have s2' : (W1.alloc (.cells #[.int .u64 lo] 22)).cell? ⟨Bs, 0, none⟩ = some (.int .u64 s) := by rw [hW2]; exact s2
    have l2' : (W1.alloc (.cells #[.int .u64 lo] 22)).cell? ⟨W1.heap.size, 0, none⟩ = some (.int .u64 lo) := cell_new_row _ _ _ 0
    have L3 := Lib.hid l3
    have S3 := Lib.hid s3
    have R3 := Lib.hid r3
    have Y3 := Lib.hid y3
    have J3 := Lib.hid j3
    have HW2 := Lib.hid hW2
    have HW3 := Lib.hid hW3
    have Z2 := Lib.hid z2
    have Z3 := Lib.hid z3
    have Z1 := Lib.hid z1
    have HY := Lib.hid hY
    have hrl := HRL.out
    clear hlo hr hSP hrl0 hW2 hW3 z2 z3 b12 b23 l3 s3 r3 y3 j3 hY z1 hj0 hY0 hB0 hcs hc hBs hW h0 l2 s2
    gi_wp2_with (first | (refine ⟨trivial, ?_⟩; gi_at_call 62; refine (callsIn_wide.2 (HF.out _)).mono ?_; rintro e w' ⟨rfl, rfl⟩))
    refine ⟨trivial, ?_⟩
    refine (HSB.out _).mono ?_
    rintro e w' ⟨rfl, rfl⟩
    rw [HW2.out, HW3.out, Z2.out, Z1.out]
    have HZY := Lib.hid hzW
    clear s2' l2' hrl HRL HF HSB HW2 HW3 Z2 Z1 hW1 hc0 hzW
    gi_wp2
    refine rangeQ rfl (by omega) (gf := 54) (lb := #[.pointer (some ⟨W.heap.size + 1 + 1, 0, none⟩)]) rfl trivial (enters_of Tryd.func54 (by kernel_rfl) rfl)
      (subsets_seqQ Fence.wide 1 (fun _ => trivial) rfl (by omega) (W.heap.size + 1 + 1) 0 0 r hrs W3 (by have := Z3.out; omega) R3.out) (fun k hk => by simp at hk; have := Z3.out; omega) (Nat.zero_le _) (Below.refl _ _) (fun _ => rfl)
      (fun pre W' => (J (pre.map (splP s)) W' ∧ Boxed W' W.heap.size 29 (.func (.yield l) #[] #[])) ∧ StB [Bs, W.heap.size + 1, W.heap.size + 1 + 1] W3 W')
      (fun c pre W' => c = .ret ∧ Jx (pre.map (splP s)) W')
      (OwnFrom.and (OwnFrom.and (fun pre A B row h hg hr => OwnFrom.le hJ (by have := Z3.out; omega) (pre.map (splP s)) A B row h hg hr) (Own.from (boxed_own _ _ (fun _ : List Nat => Value.func (.yield l) #[] #[])) _)) (own_stb (Nat.le_refl _) (fun k hk => by have := Z3.out; simp at hk; omega)))
      (fun c pre A B row h hg hr => ⟨h.1, OwnFrom.le hJx (by have := Z3.out; omega) (pre.map (splP s)) A B row h.2 hg hr⟩)
      ⟨⟨J3.out, Y3.out⟩, Nat.le_refl _, fun _ _ => rfl⟩
      (fun x => { tmps := #[.func (.yield l) #[] #[], .pointer (some ⟨Bs, 0, none⟩), .pointer (some ⟨W.heap.size, 0, none⟩), .pointer (some ⟨W.heap.size + 1, 0, none⟩), .int .u64 (x : Nat), .int .u64 s, .bool false, .int .u64 s, .int .u64 lo, .int .u64 s, .int .u64 lo, .int .u64 r, .func (.func 54) #[] #[.pointer (some ⟨W.heap.size + 1 + 1, 0, none⟩)], .int .u64 (x : Nat), undef, undef, undef, undef, undef, undef, undef, undef, undef, undef, undef], defers := [] }) ?assign ?body ?done ?stop
    case assign =>
      intro l2 x W' K hK
      gi_wp2
      exact hK
    case body =>
      rintro l2 pre x Wb ⟨⟨hj, hbx⟩, hst⟩ hp _
      have hxr : x < 18446744073709551616 := by
        have hm : x ∈ subs r := hp.subset (by simp)
        obtain ⟨j, _, rfl⟩ := List.mem_map.1 hm
        exact sub_lt hrs
      have cy := hbx.cell
      have cs := (hst.cell (k := Bs) (by simp)).trans S3.out
      have cl := (hst.cell (k := W.heap.size + 1) (by simp)).trans L3.out
      have hor := u64_or_nat x lo hxr hlol
      have hxl : x ||| lo < 18446744073709551616 := Nat.or_lt_two_pow (n := 64) hxr hlol
      have han := u64_andNot_nat s (x ||| lo) hs hxl
      have hya := HY.out (pre.map (splP s)) (splP s x) Wb hj (by rw [HSPL.out]; have := hp.map (splP s); rw [List.map_append] at this; exact this) (by have := hst.1; have := Z3.out; omega)
      have hyb := YieldAt.mono (yieldAny rfl 0 l2 hya) (R' := fun e W' => ∃ bb : Bool, e = .returned (.bool bb) ∧ KeepsFrom W.heap.size Wb W' ∧ (bb = true → J (pre.map (splP s) ++ [splP s x]) W' ∧ Below n0 Wb W' ∧ (∀ k, W.heap.size ≤ k → k < W.heap.size + 3 → W'.heap[k]? = Wb.heap[k]?) ∧ ∀ k, k ∈ [Bs] → W'.heap[k]? = Wb.heap[k]?) ∧ (bb = false → Jx (pre.map (splP s) ++ [splP s x]) W')) (by
        rintro e W' ⟨h1, ⟨rfl, h2, h3, h4, h5⟩ | ⟨rfl, h2⟩⟩
        · exact ⟨true, rfl, h1, (fun _ => ⟨h2, h3, h4, h5⟩), (fun h => by cases h)⟩
        · exact ⟨false, rfl, h1, (fun h => by cases h), (fun _ => h2)⟩)
      obtain ⟨fn, tmps, assign, body, hy, hR⟩ := hyb
      rw [HSP.out x] at hy
      dsimp only at hy
      obtain ⟨xl, hxle⟩ : ∃ xl, x ||| lo = xl := ⟨_, rfl⟩
      obtain ⟨yl, hyle⟩ : ∃ yl, s &&& (18446744073709551615 - xl) = yl := ⟨_, rfl⟩
      rw [hxle, hyle] at hy han
      rw [hxle] at hor hxl
      have HR := Lib.hid hR
      have HJB := Lib.hid hj
      have HBX := Lib.hid hbx
      have HST := Lib.hid hst
      clear hR hya hj hbx hst hp hxle hyle hrs
      gi_wp2_with fail
      refine ⟨rfl, HR.out.mono ?_⟩
      rintro e W4 ⟨bb, rfl, hq1, hq2, hq3⟩
      cases bb with
      | true =>
        obtain ⟨hj3, hb3, hp3, hs3⟩ := hq2 rfl
        have hst4 : StB [Bs, W.heap.size + 1, W.heap.size + 1 + 1] Wb W4 := ⟨hq1.size, fun k hk => by
          simp at hk
          rcases hk with rfl | rfl | rfl
          · exact hs3 k (by simp)
          · exact hp3 _ (by omega) (by omega)
          · exact hp3 _ (by omega) (by omega)⟩
        have HFIN : Hid (KeepsFrom W3.heap.size Wb W4 ∧ KpO 0 0 [W.heap.size + 1 + 1] W3 Wb W4 ∧ ((J ((pre ++ [x]).map (splP s)) W4 ∧ Boxed W4 W.heap.size 29 (.func (.yield l) #[] #[])) ∧ StB [Bs, W.heap.size + 1, W.heap.size + 1 + 1] W3 W4)) := Lib.hid ⟨KeepsFrom.raise hq1 (by have := Z3.out; omega), ⟨hb3.mono (Nat.zero_le _), fun k h1 h2 => by omega, fun k hk => hst4.2 k (by simp at hk; simp [hk])⟩, ⟨by rw [List.map_append]; exact hj3, (hp3 _ (Nat.le_refl _) (by omega)).trans HBX.out⟩, HST.out.trans hst4⟩
        clear hj3 hb3 hp3 hs3 hq1 hq2 hq3 hst4
        gi_wp2
        exact HFIN.out
      | false =>
        have HFIN : Hid (KeepsFrom W3.heap.size Wb W4 ∧ Jx ((pre ++ [x]).map (splP s)) W4) := Lib.hid ⟨KeepsFrom.raise hq1 (by have := Z3.out; omega), by rw [List.map_append]; exact hq3 rfl⟩
        clear hq1 hq2 hq3
        gi_wp2
        exact ⟨HFIN.out.1, rfl, HFIN.out.2⟩
    case done =>
      rintro D ys W' hD rfl ⟨⟨hj, hbx⟩, hbl⟩ hK
      have HJ2 := Lib.hid hj
      gi_wp2
      refine ⟨by simp, .inl ⟨_, _, rfl, run_takeDeferred hK, ?_⟩⟩
      refine ⟨_, results_none rfl _ _ _, ⟨_, rfl⟩, .inl ⟨_, rfl, ?_⟩⟩
      rw [HSPL.out]
      exact hJ.putObj _ HJ2.out (by have := Z3.out; omega) hK rfl
    case stop =>
      rintro D c pre W' hD hp ⟨rfl, hj⟩ hK
      gi_wp2
      refine ⟨by simp, .inl ⟨_, _, rfl, run_takeDeferred hK, ?_⟩⟩
      refine ⟨_, results_none rfl _ _ _, ⟨_, rfl⟩, .inr ⟨_, ?_, hJx.putObj _ hj (by have := Z3.out; omega) hK rfl⟩⟩
      rw [HSPL.out]
      exact hp.map _
end Go.Proofs.YtndbpmhdpjlncaaDoor
