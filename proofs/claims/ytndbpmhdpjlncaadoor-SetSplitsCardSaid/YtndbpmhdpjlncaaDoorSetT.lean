/- The contract of set.Text. -/
import Derived.Test.YtndbpmhdpjlncaaDoorSetO
import Derived.Test.YtndbpmhdpjlncaaDoorPairs1
namespace Go.Proofs.YtndbpmhdpjlncaaDoor
open Go.RowKit Go.Shelf

attribute [local go_sem] Oper.semAt_some
attribute [-go_sem] Builtin.append_

theorem ret_str {x a : ByteArray} (h1 : x = a) : Ending.returned (.string x) = .returned (.string a) := by rw [h1]
theorem infoStr : (Tryd.prog.info? 9).map (fun i => (i.zero, i.size, i.bytes)) = some (some (.string ⟨#[]⟩), 1, 16) := by kernel_rfl
def digB (i : Nat) : ByteArray := ⟨(Lib.decDigits i).toArray⟩
def encW (i : Nat) : Value := .string (digB i)
theorem itoa_any (i : Nat) (hi : i < 64) (w : World) : Calls Tryd.prog 51 #[.int .i64 i] w fun e w' => e = .returned (.string (digB i)) ∧ w = w' := by
  refine (Tryd.strconv_Itoa_small i (by omega) w).mono ?_
  rintro e w' ⟨rfl, rfl⟩
  exact ⟨rfl, rfl⟩
theorem appW (pre : List Nat) (x : Nat) : (pre ++ [x]).map encW = pre.map encW ++ [encW x] := by rw [List.map_append]; rfl

theorem join_len (xs : List (List UInt8)) (h : ∀ x ∈ xs, x.length ≤ 2) : (Lib.join xs [44]).length ≤ 3 * xs.length := by
  induction xs with
  | nil => simp [Lib.join_nil]
  | cons x xs ih =>
    have hx := h x (by simp)
    have ih' := ih (fun y hy => h y (by simp [hy]))
    cases xs with
    | nil => rw [Lib.join_one]; simp; omega
    | cons y ys =>
      have e : Lib.join (x :: y :: ys) [44] = x ++ [44] ++ Lib.join (y :: ys) [44] := by simp [Lib.join, List.intercalate]
      rw [e, List.length_append, List.length_append]
      simp only [List.length_cons, List.length_nil] at ih' ⊢
      omega
theorem dig_len (i : Nat) (h : i < 64) : (Lib.decDigits i).length ≤ 2 := by
  unfold Lib.decDigits
  split
  · simp
  · unfold Lib.decDigits
    split
    · simp
    · omega
theorem join_bd (s : Nat) : (Lib.join ((items s).map Lib.decDigits) [44]).length ≤ 192 := by
  have h := join_len ((items s).map Lib.decDigits) (fun x hx => by obtain ⟨i, hi, rfl⟩ := List.mem_map.1 hx; exact dig_len i (items_lt hi))
  have := cnt_le s
  unfold cnt at this
  rw [List.length_map] at h
  omega

theorem join_any (s : Nat) (pa : Option Addr) (pc : Nat) (W : World) {B : Nat} (h : W.ownsRow B 9 1 (.slice pa (items s).length pc) (items s).length ((items s).map encW)) :
    Calls Tryd.prog 52 #[.slice pa (items s).length pc, .string ⟨#[44]⟩] W fun e w' => e = .returned (.string ⟨(Lib.join ((items s).map Lib.decDigits) [44]).toArray⟩) ∧ Below W.heap.size W w' := by
  have hb := join_bd s
  have hmap : (items s).map Lib.decDigits = ((items s).map digB).map (fun b => b.data.toList) := by rw [List.map_map]; rfl
  rcases h.2 with ⟨e, h0⟩ | ⟨g, cap, cur, e, _, hgb, hn, _, _, _⟩
  · simp only [Value.slice.injEq] at e
    obtain ⟨rfl, _, rfl⟩ := e
    have hnil := List.eq_nil_of_length_eq_zero h0
    rw [hnil]
    refine (Tryd.strings_Join_none _ _ _ _).mono ?_
    rintro e w' ⟨rfl, rfl⟩
    exact ⟨rfl, Below.refl _ _⟩
  · simp only [Value.slice.injEq] at e
    obtain ⟨rfl, _, rfl⟩ := e
    have hS := Sl.of_owns (enc := encW) h
    have hlen := cnt_le s
    unfold cnt at hlen
    have hj := Tryd.strings_Join g 0 pc ((items s).map digB) ⟨#[44]⟩ W (fun j x hx => by
      rw [List.getElem?_map] at hx
      cases hi : (items s)[j]? with
      | none => rw [hi] at hx; cases hx
      | some i => rw [hi] at hx; cases hx; exact hS.cell.2.2 j i hi) hS.cell.2.1 (by rw [List.length_map]; omega) (by rw [List.length_map]; exact hn) (by rw [← hmap]; exact Nat.le_trans hb (by decide))
    rw [List.length_map, ← hmap] at hj
    exact hj

set_option maxRecDepth 100000 in
set_option maxHeartbeats 4000000 in
theorem text_any (s : Nat) (w : World) (hs : s < 18446744073709551616) (hE : Env w) :
    Calls Tryd.prog 29 #[.int .u64 s] w fun e w' => e = .returned (.string ⟨([123] ++ Lib.join ((items s).map Lib.decDigits) [44] ++ [125]).toArray⟩) ∧ Below w.heap.size w w' := by
  obtain ⟨i0, hi, hz0, hz1, hz2⟩ := info_parts infoStr
  have hmx : Tryd.prog.follows .mixedOrders = true := by kernel_rfl
  refine (callsIn_wide (n := 3)).1 ?_
  refine callsIn_of_wp_marks Tryd.func29 rfl trivial ?_ rfl
  simp only [Tryd.ntmps29, List.size_toArray, List.length_cons, List.length_nil, Nat.reduceAdd, Nat.reduceSub, Array.replicate_succ, Array.replicate_zero, List.push_toArray, List.append_toArray, List.nil_append, List.cons_append]
  have HI := Lib.hid (fun w => callsIn_wide.1 (items_in Fence.wide 2 (fun _ => trivial) rfl s w))
  gi_wp2_with (refine ⟨trivial, ?_⟩; gi_at_call 38; refine (callsIn_wide.2 (HI.out _)).mono ?_; rintro e w' ⟨rfl, rfl⟩)
  have bO := (Boxed.new w 80 (.slice none 0 0)).alloc (.cells #[.int .u64 s] 22)
  have hB0 : Below w.heap.size w ((w.alloc (.cells #[.slice none 0 0] 80)).alloc (.cells #[.int .u64 s] 22)) := ((Below.refl _ w).alloc (Nat.le_refl _) _).alloc (by simp) _
  have hE2 := hE.below hB0 hE.size
  have hc2 : ((w.alloc (.cells #[.slice none 0 0] 80)).alloc (.cells #[.int .u64 s] 22)).cell? ⟨w.heap.size + 1, 0, none⟩ = some (.int .u64 s) := by
    have := cell_new_row (w.alloc (.cells #[.slice none 0 0] 80)) #[.int .u64 s] 22 0
    rw [World.size_alloc] at this; exact this
  refine rangeO rfl (by omega) (gf := 59) (lb := #[.pointer (some ⟨w.heap.size + 1, 0, none⟩)]) rfl trivial (enters_of Tryd.func59 (by kernel_rfl) rfl)
    (items_seq Fence.wide 2 (fun _ => trivial) (fun h => callsIn_wide.2 h) rfl (by omega) (w.heap.size + 1) w.heap.size s hs hE.size _ (by simp) hc2 hE2) (fun _ h => by cases h) (by simp; omega) (Below.refl _ _) (fun _ => rfl)
    (fun pre W => (∃ v, Boxed W w.heap.size 80 v ∧ W.ownsRow w.heap.size 9 1 v pre.length (pre.map encW) ∧ True) ∧ Below w.heap.size w W)
    (fun _ _ _ => False)
    (OwnFrom.and (Own.from (holdsRow_own w.heap.size w.heap.size 80 9 1 (fun pre : List Nat => pre.length) (fun pre : List Nat => pre.map encW) (fun _ _ => True)) _) (ownFrom_below (Nat.le_refl _) (by simp; omega)))
    (fun _ _ _ _ _ hs _ _ => hs)
    (AbidesCells.nil _) (fun _ => AbidesCells.nil _) ⟨⟨_, bO, World.ownsRow_nil _ _ _ _, trivial⟩, hB0⟩
    (fun x => { tmps := #[.int .u64 s, undef, .string ⟨#[]⟩, .pointer (some ⟨w.heap.size, 0, none⟩), .int .i64 x, .int .u64 s, .func (.func 59) #[] #[.pointer (some ⟨w.heap.size + 1, 0, none⟩)], .int .i64 x, undef, undef, undef, undef, undef, undef, undef, undef, undef], defers := [] }) ?assign ?body ?done ?stop
  case assign =>
    intro l x W K hK
    gi_wp2
    exact hK
  case body =>
    rintro l pre x W ⟨⟨v, hv, hrow, _⟩, hB⟩ hp _
    have hx := items_lt (hp.subset (show x ∈ pre ++ [x] by simp))
    have hpl : pre.length < 64 := by have := hp.length_le; have h2 := cnt_le s; rw [List.length_append] at this; simp at this; show pre.length < 64; unfold cnt at h2; omega
    have hc := hv.cell
    have hf := hv.frozen
    have HIT := Lib.hid (fun w => itoa_any x hx w)
    clear hp hE hE2 hc2 hB0 bO HI
    obtain ⟨v', w', hrun, hown', hgrow, _⟩ := run_append_own (P := Tryd.prog) ((W.alloc (.cells #[.string (digB x)] 9)).drew) w.heap.size 80 80 9 i0 (.string ⟨#[]⟩) 1 16 Tryd.underlying80 hi hz0 hz1 hz2 rfl (by decide) v pre.length (pre.map encW) (hrow.alloc _) ⟨W.heap.size, 0, none⟩ 1 1 [.string (digB x)] rfl (cell_one_new _ _ _) (by simp [Value.oneCell']) (by unfold maxLen; omega) (by omega) (by have := hB.size; simp; omega)
    obtain ⟨g', cap', rfl⟩ := ownsRow_succ hown'
    obtain ⟨hv1, hv2, hr2, hk2, hb2⟩ := hv.appended (tmp := .cells #[.string (digB x)] 9) (by decide) hrow hB.size (Nat.le_refl _) hown' ⟨hgrow.os, hgrow.tape, hgrow.output, hgrow.size, hgrow.block⟩
    have hc1 := hv1.cell
    have hf1 := hv1.frozen
    have hcA := (hv.alloc (.cells #[.string (digB x)] 9)).cell
    have HR := Lib.hid hr2
    clear hr2 hown' hgrow hrow
    gi_wp2
    gi_region_with_o (refine ⟨trivial, ?_⟩; gi_at_call 51; refine (CallsIn.inRound l (callsIn_wide.2 (HIT.out _))).mono ?_; rintro e w' ⟨rfl, rfl⟩)
    all_goals gi_wp2
    all_goals exact ⟨hk2.from _, ⟨hb2, (fun k h1 h2 => by omega), (fun k h => by cases h)⟩, ⟨_, hv2, by have e := appW pre x; rw [List.length_append, e]; exact HR.out, trivial⟩, hB.trans hb2⟩
  case done =>
    rintro D ys W hD rfl ⟨⟨v, hv, hrow, _⟩, hB⟩ hK
    have hc := hv.cell
    obtain ⟨pa, pc, rfl⟩ := owns_slice hrow
    have hjl := join_bd s
    have HJ := Lib.hid (join_any s pa pc W hrow)
    gi_wp2_with (refine ⟨trivial, ?_⟩; gi_at_call 52; refine (callsIn_wide.2 HJ.out).mono ?_; rintro e w1 ⟨rfl, hb1⟩)
    have hDl := (Array.getElem?_eq_some_iff.1 hK).1
    have hK' := (hb1.block D hDl).trans hK
    refine ⟨by simp, .inl ⟨_, _, rfl, run_takeDeferred hK', ?_⟩⟩
    refine ⟨_, results_tmp rfl _ _ _, ?_, (hB.trans (hb1.mono hB.size)).trans (belowK_b (w := w) (Nat.le_refl _) w1 D _ _ (by simp at hD; omega) hK' rfl rfl)⟩
    refine ret_str ?_
    apply ByteArray.ext
    simp
  case stop =>
    rintro D c pre W _ _ h _
    exact h.elim

end Go.Proofs.YtndbpmhdpjlncaaDoor
