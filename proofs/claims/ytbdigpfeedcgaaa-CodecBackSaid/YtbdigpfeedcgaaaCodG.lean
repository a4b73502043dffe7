/- codec.All at int64. -/
import Derived.Test.YtbdigpfeedcgaaaCodE
import Derived.Test.YtbdigpfeedcgaaaSumAlive
namespace Go.Proofs.Ytbdigpfeedcgaaa
open Go.RowKit
set_option linter.unusedVariables false

theorem intsR_bytes : ∀ (k : Nat) (l : List Nat) (e : Nat), Bytes l → Bytes (intsR k l e).2.1
  | 0, l, e, h => h
  | k + 1, l, e, h => by
    have h1 := intsR_bytes k (uintR l e).1 (uintR l e).2 (uintR_bytes h e)
    unfold intsR
    split
    · exact h1
    · exact uintR_bytes h e
theorem takeN_bytes {l : List Nat} (h : Bytes l) (e most : Nat) : Bytes (takeN l e most).2.1 := intsR_bytes _ _ _ (countR_bytes h e most 3)
theorem takeB_bytes {l : List Nat} (h : Bytes l) (e most : Nat) : Bytes (takeB l e most).2.1 := by
  unfold takeB
  split
  · exact Bytes.nil_
  · exact (countR_bytes h e most 2).drop_ _

/-- What All answers. -/
def allR (l : List Nat) (most : Nat) : List Int × Nat := if 0 < (takeN l 0 most).2.1.length then ([], 20) else ((takeN l 0 most).1, (takeN l 0 most).2.2)

set_option maxRecDepth 100000 in
set_option maxHeartbeats 1000000 in
theorem all_any (a : Option Addr) (n c most : Nat) (l : List Nat) (hl : Bytes l) (hm : most ≤ 1048576) (w : World) (hS : Sl encY w.heap.size w (.slice a n c) l) :
    Calls Try.prog 50 #[.slice a n c, .int .i64 (most : Nat), .func (.func 45) #[] #[]] w fun e2 w' => ∃ v, e2 = .returned (.tuple #[v, .int .i64 ((allR l most).2 : Nat)]) ∧ Sl encN w'.heap.size w' v (allR l most).1 ∧ Below w.heap.size w w' := by
  have HF := Lib.hid (from_any a n c l hl.1 w hS)
  have hb := takeN_bytes hl 0 most
  obtain ⟨⟨R1, R2, R3⟩, hR⟩ : ∃ R, takeN l 0 most = R := ⟨_, rfl⟩
  have HR := Lib.hid hR
  have HL := Lib.hid hl
  rw [hR] at hb
  dsimp only at hb
  have hb1 := hb.1
  clear hS hl
  by_cases h0 : 0 < R2.length
  · rw [show allR l most = ([], 20) from by unfold allR; rw [hR]; exact if_pos h0]
    clear hR
    go_enter Try.func50, Try.ntmps50
    go_wp2_with fail
    refine HF.out.mono ?_
    rintro e2 w1 ⟨b, rfl, hbw, hi1, hb1'⟩
    have ht := takeAll_any w1.heap.size b 0 most l HL.out hm w1 hi1
    rw [HR.out] at ht
    have HT := Lib.hid ht
    have HB1 := Lib.hid hb1'
    clear ht hi1 hb1' HF
    go_wp2_with fail
    refine HT.out.mono ?_
    rintro e2 w2 ⟨v, rfl, hv, hi2, hb2⟩
    have HLF := Lib.hid (left_any w1.heap.size b R3 R2 hb1 w2 hi2)
    have HB2 : Hid (Below w.heap.size w w2) := Lib.hid (HB1.out.trans (hb2.below (by intro k hk; simp at hk; omega) HB1.out.size))
    obtain ⟨pa, pc, hve⟩ := hv.form
    obtain ⟨M, hM⟩ : ∃ M, R2.length = M := ⟨_, rfl⟩
    rw [hM] at HLF h0
    have h0i : (0 : Int) < (M : Nat) := by omega
    clear hv hi2 hb2 HT hM hb1
    go_wp2_with (go_at_call 49; refine HLF.out.mono ?_; rintro e3 w3 ⟨rfl, rfl⟩)
    go_ret2
    exact ⟨_, rfl, Sl.nil _ _ _, HB2.out⟩
  · rw [show allR l most = (R1, R3) from by unfold allR; rw [hR]; exact if_neg h0]
    clear hR
    go_enter Try.func50, Try.ntmps50
    go_wp2_with fail
    refine HF.out.mono ?_
    rintro e2 w1 ⟨b, rfl, hbw, hi1, hb1'⟩
    have ht := takeAll_any w1.heap.size b 0 most l HL.out hm w1 hi1
    rw [HR.out] at ht
    have HT := Lib.hid ht
    have HB1 := Lib.hid hb1'
    clear ht hi1 hb1' HF
    go_wp2_with fail
    refine HT.out.mono ?_
    rintro e2 w2 ⟨v, rfl, hv, hi2, hb2⟩
    have HLF := Lib.hid (left_any w1.heap.size b R3 R2 hb1 w2 hi2)
    have HEF := Lib.hid (err_any w1.heap.size b R3 R2 w2 hi2)
    have HB2 : Hid (Below w.heap.size w w2) := Lib.hid (HB1.out.trans (hb2.below (by intro k hk; simp at hk; omega) HB1.out.size))
    have HV := Lib.hid hv
    obtain ⟨M, hM⟩ : ∃ M, R2.length = M := ⟨_, rfl⟩
    rw [hM] at HLF h0
    obtain rfl : M = 0 := by omega
    clear hv hi2 hb2 HT hM hb1
    go_wp2_with (go_at_call 49; refine HLF.out.mono ?_; rintro e3 w3 ⟨rfl, rfl⟩)
    go_wp2_with (go_at_call 48; refine HEF.out.mono ?_; rintro e3 w3 ⟨rfl, rfl⟩)
    go_ret2
    exact ⟨_, rfl, HV.out, HB2.out⟩
end Go.Proofs.Ytbdigpfeedcgaaa

/- Facts for the document's examples of layer 5. -/
namespace Go.Proofs.Ytbdigpfeedcgaaa
open Go.RowKit
set_option linter.unusedVariables false

theorem uv300 : uv 300 = [172, 2] := by rw [uv_ge (by decide), uv_lt (by decide)]
theorem uvm1 : uv (zig (-1)) = [1] := by rw [uv_lt (by decide)]; rfl
theorem listm : listL [-1, 1] = [2, 1, 2] := by
  unfold listL uvs
  simp only [List.map, List.flatten, uvm1]
  rw [show zig 1 = 2 from rfl, show [(-1 : Int), 1].length = 2 from rfl, uv_lt (by decide)]
  rfl
theorem bytesxy : uv ([120, 121] : List Nat).length ++ [120, 121] = [2, 120, 121] := by rw [uv_lt (by decide)]; rfl
theorem w300 : wholeR [172, 2] = (300, 2, 0) := by decide +kernel
theorem u300 : uintR [172, 2] 0 = ([], 0) := by decide +kernel
theorem all1 : allR [2, 1, 2] 2 = ([-1, 1], 0) := by decide +kernel
theorem all2 : allR [2, 1, 2] 1 = ([], 3) := by decide +kernel
theorem all3 : allR [1, 128] 5 = ([], 21) := by decide +kernel
theorem takexy : takeB [2, 120, 121] 0 2 = ([120, 121], [], 0) := by decide +kernel

theorem done_at {w3 : World} {b : Nat} {v : Value} {l : List Nat} (h : OutB w3 b v l) (hl : l.length ≤ 1048576) (W : World) (hW : Below w3.heap.size w3 W) :
    Calls Try.prog 35 #[.pointer (some ⟨b, 0, none⟩)] W fun e W' => ∃ a c, e = .returned (.slice a l.length c) ∧ Sl encY W'.heap.size W' (.slice a l.length c) l ∧ Below W.heap.size W W' := by
  have h2 : OutB W b v l := h.below hW
  refine (done_any b v l hl W h2).mono ?_
  rintro e W' ⟨r, rfl, hr, hb⟩
  have hS := Sl.of_owns hr
  obtain ⟨a, c, rfl⟩ := hS.form
  exact ⟨a, c, rfl, hS, hb⟩
/-- An Out that was written for the first time. -/
theorem OutTo.first {w w' : World} {b : Nat} {v : Value} {l : List Nat} (h : OutTo w b (.slice none 0 0) v l w') (hl : l ≠ []) : OutB w' b v l ∧ But [b] w w' ∧ ∀ g, v.ownBlock = some g → w.heap.size ≤ g := by
  refine ⟨h.out, h.but, fun g hg => ?_⟩
  rcases h.own with e | ⟨g', e, hg'⟩
  · rw [e] at hg; cases hg
  · rw [e] at hg; cases hg; exact hg'
theorem three_new (w : World) (N : Nat) (hN : w.heap.size = N) : ∃ W1, ((w.alloc (.cells #[.slice none 0 0] 48)).alloc (.cells #[.slice none 0 0] 48)).alloc (.cells #[.slice none 0 0] 48) = W1 ∧ OutB W1 N (.slice none 0 0) [] ∧ OutB W1 (N + 1) (.slice none 0 0) [] ∧ OutB W1 (N + 1 + 1) (.slice none 0 0) [] ∧ Below N w W1 ∧ W1.heap.size = N + 3 := by
  subst hN
  refine ⟨_, rfl, ?_, ?_, ?_, (((Below.refl _ w).alloc (Nat.le_refl _) _).alloc (by simp) _).alloc (by simp; omega) _, by simp⟩
  · exact ((OutB.new w).below ((Below.refl _ _).alloc (Nat.le_refl _) _)).below ((Below.refl _ _).alloc (Nat.le_refl _) _)
  · have := (OutB.new (w.alloc (.cells #[.slice none 0 0] 48)))
    rw [World.size_alloc] at this
    exact this.below ((Below.refl _ _).alloc (Nat.le_refl _) _)
  · have := (OutB.new ((w.alloc (.cells #[.slice none 0 0] 48)).alloc (.cells #[.slice none 0 0] 48)))
    rw [World.size_alloc, World.size_alloc] at this
    exact this
theorem litN (w : World) (xs : List Int) (n : Nat) (hn : xs.length = n) (cs : Array Value) (h : cs = (xs.map encN).toArray) : Sl encN (w.alloc (.cells cs 2)).heap.size (w.alloc (.cells cs 2)) (.slice (some ⟨w.heap.size, 0, none⟩) n n) xs := by
  subst hn
  refine .inr ⟨w.heap.size, 0, xs.length, rfl, by simp, Nat.le_refl _, fun j x hj => ?_⟩
  have h2 := World.alloc_heap_new w (.cells cs 2)
  simp only [World.cell?]
  rw [h2, h, Nat.zero_add]
  simp [hj]
theorem done_str {w3 : World} {b : Nat} {v : Value} (l : List Nat) (n : Nat) (hn : l.length = n) (s : ByteArray) (h : OutB w3 b v l) (hl : l.length ≤ 1048576) (hs : strOfNums (l.map Int.ofNat) = s) (W : World) (hW : Below w3.heap.size w3 W) :
    Calls Try.prog 35 #[.pointer (some ⟨b, 0, none⟩)] W fun e W' => ∃ a c, e = .returned (.slice a n c) ∧ (convert 22 9 (.slice a n c)).run Try.prog W' = .ok (.string s) W' ∧ Sl encY W'.heap.size W' (.slice a n c) l ∧ Below W.heap.size W W' := by
  subst hn
  refine (done_at h hl W hW).mono ?_
  rintro e W' ⟨a, c, rfl, hS, hB⟩
  refine ⟨a, c, rfl, ?_, hS, hB⟩
  rw [← hs]
  exact (bytesIn_of hS).convert (P := Try.prog) (by simp) c 22 5 9 Try.underlying22 Try.underlying5 Try.underlying9
theorem in300 (n0 b : Nat) (w : World) (h : InB n0 w b [172, 2] 0) :
    Calls Try.prog 47 #[.pointer (some ⟨b, 0, none⟩)] w fun e2 w' => e2 = .returned (.int .u64 300) ∧ InB n0 w' b [] 0 ∧ But [b] w w' := by
  have hU := inUint_any n0 b 0 [172, 2] ⟨by decide, by decide⟩ w h
  rw [w300, u300] at hU
  exact hU
theorem all_1 (a : Option Addr) (c : Nat) (w : World) (hS : Sl encY w.heap.size w (.slice a 3 c) [2, 1, 2]) :
    Calls Try.prog 50 #[.slice a 3 c, .int .i64 2, .func (.func 45) #[] #[]] w fun e2 w' => ∃ a' c', e2 = .returned (.tuple #[.slice a' 2 c', .int .i64 0]) ∧ Sl encN w'.heap.size w' (.slice a' 2 c') [-1, 1] ∧ Below w.heap.size w w' := by
  refine (all_any a 3 c 2 [2, 1, 2] ⟨by decide, by decide⟩ (by decide) w hS).mono ?_
  rintro e2 w' ⟨v, rfl, hv, hb⟩
  rw [all1] at hv ⊢
  obtain ⟨a', c', rfl⟩ := hv.form
  exact ⟨a', c', rfl, hv, hb⟩
theorem all_2 (a : Option Addr) (c : Nat) (w : World) (hS : Sl encY w.heap.size w (.slice a 3 c) [2, 1, 2]) :
    Calls Try.prog 50 #[.slice a 3 c, .int .i64 1, .func (.func 45) #[] #[]] w fun e2 w' => ∃ a' c', e2 = .returned (.tuple #[.slice a' 0 c', .int .i64 3]) ∧ Below w.heap.size w w' := by
  refine (all_any a 3 c 1 [2, 1, 2] ⟨by decide, by decide⟩ (by decide) w hS).mono ?_
  rintro e2 w' ⟨v, rfl, hv, hb⟩
  rw [all2] at hv ⊢
  obtain ⟨a', c', rfl⟩ := hv.form
  exact ⟨a', c', rfl, hb⟩
theorem all_3 (a : Option Addr) (c : Nat) (w : World) (hS : Sl encY w.heap.size w (.slice a 2 c) [1, 128]) :
    Calls Try.prog 50 #[.slice a 2 c, .int .i64 5, .func (.func 45) #[] #[]] w fun e2 w' => ∃ a' c', e2 = .returned (.tuple #[.slice a' 0 c', .int .i64 21]) ∧ Below w.heap.size w w' := by
  refine (all_any a 2 c 5 [1, 128] ⟨by decide, by decide⟩ (by decide) w hS).mono ?_
  rintro e2 w' ⟨v, rfl, hv, hb⟩
  rw [all3] at hv ⊢
  obtain ⟨a', c', rfl⟩ := hv.form
  exact ⟨a', c', rfl, hb⟩
theorem bytes_xy (n0 b : Nat) (w : World) (h : InB n0 w b [2, 120, 121] 0) :
    Calls Try.prog 46 #[.pointer (some ⟨b, 0, none⟩), .int .i64 2] w fun e2 w' => ∃ a c, e2 = .returned (.slice a 2 c) ∧ (convert 22 9 (.slice a 2 c)).run Try.prog w' = .ok (.string ⟨#[120, 121]⟩) w' ∧ But [b] w w' := by
  refine (inBytes_any n0 b 0 2 [2, 120, 121] ⟨by decide, by decide⟩ (by decide) w h).mono ?_
  rintro e2 w' ⟨v, rfl, hv, _, _, hb⟩
  rw [takexy] at hv
  obtain ⟨a', c', rfl⟩ := hv.form
  refine ⟨a', c', rfl, ?_, hb⟩
  have hs : strOfNums (([120, 121] : List Nat).map Int.ofNat) = ⟨#[120, 121]⟩ := by decide +kernel
  rw [← hs]
  exact (bytesIn_of hv).convert (P := Try.prog) (by simp) c' 22 5 9 Try.underlying22 Try.underlying5 Try.underlying9
theorem out_xy (pa : Option Addr) (c b : Nat) (w : World) (h : OutB w b (.slice none 0 0) []) (hS : Sl encY w.heap.size w (.slice pa 2 c) [120, 121]) (hoff : Off [b] (.slice pa 2 c)) :
    Calls Try.prog 31 #[.pointer (some ⟨b, 0, none⟩), .slice pa 2 c] w fun e w' => e = .returned (.tuple #[]) ∧ (∃ v, OutB w' b v [2, 120, 121]) ∧ But [b] w w' := by
  refine (obytes_any pa 2 c [120, 121] (by decide) b _ [] (by decide) w h hS hoff).mono ?_
  rintro e w' ⟨rfl, v', hto⟩
  rw [bytesxy] at hto
  obtain ⟨h1, h2, _⟩ := hto.first (by simp)
  exact ⟨rfl, ⟨v', h1⟩, h2⟩
end Go.Proofs.Ytbdigpfeedcgaaa

/- The document's examples of layer 5 are answered as it says. -/
namespace Go.Proofs.Ytbdigpfeedcgaaa
open Go.RowKit
set_option linter.unusedVariables false
attribute [local go_sem] Oper.semAt_some

set_option maxRecDepth 100000 in
set_option maxHeartbeats 4000000 in
theorem codecAlive_any (w : World) : Calls Try.prog 28 #[] w fun e w' => e = .returned (.bool true) ∧ Below w.heap.size w w' := by
  have hB0 := Below.refl w.heap.size w
  have hz : ∀ (w : World), (zeroValue 48).run Try.prog w = .ok (.agg #[.slice none 0 0]) w := fun w => by kernel_rfl
  have hcv := fun (w : World) (C : Array Value) (n c : Nat) => Lib.run_convert_bytes_const (P := Try.prog) w 22 5 C n c Try.underlying22 Try.underlying5
  obtain ⟨N, hN⟩ : ∃ N, w.heap.size = N := ⟨_, rfl⟩
  have HN := Lib.hid hN
  go_enter Try.func28, Try.ntmps28
  go_wp2_with fail
  obtain ⟨W1, hW1, oa, ob, oc, hb1, hz1⟩ := three_new w N hN
  rw [hW1]
  have hUa := uint_any 300 (by decide) N _ [] (by simp) W1 oa
  rw [uv300] at hUa
  have HUa := Lib.hid hUa
  clear hUa oa hW1
  refine HUa.out.mono ?_
  rintro e w2 ⟨rfl, va, hto⟩
  obtain ⟨oa2, hba, hga⟩ := hto.first (by simp)
  have ob2 := ob.but hba (by simp) (fun g hg => by cases hg)
  have oc2 := oc.but hba (by simp; omega) (fun g hg => by cases hg)
  have hb2 : Below N w w2 := hb1.trans (hba.below (by simp) (by omega))
  have hz2 : N + 3 ≤ w2.heap.size := by have := hba.size; omega
  have hUb := int_any (-1) (by decide) (by decide) (N + 1) _ [] (by simp) w2 ob2
  rw [uvm1] at hUb
  have HUb := Lib.hid hUb
  clear hUb ob2 ob oc hto hba hb1 HUa
  go_wp2_with fail
  refine HUb.out.mono ?_
  rintro e w3 ⟨rfl, vb, hto⟩
  obtain ⟨ob3, hbb, hgb⟩ := hto.first (by simp)
  have oa3 := oa2.but hbb (by simp) (fun g hg hm => by have := hga g hg; simp at hm; omega)
  have oc3 := oc2.but hbb (by simp) (fun g hg => by cases hg)
  have hb3 : Below N w w3 := hb2.trans (hbb.below (by simp) (by omega))
  have hz3 : N + 3 ≤ w3.heap.size := by have := hbb.size; omega
  clear oa2 oc2 hto hbb hb2 HUb
  go_wp2_with fail
  have hSL := litN w3 [-1, 1] 2 rfl #[.int .i64 (-1), .int .i64 1] rfl
  have hblit : Below w3.heap.size w3 (w3.alloc (.cells #[.int .i64 (-1), .int .i64 1] 2)) := (Below.refl _ w3).alloc (Nat.le_refl _) _
  refine (values_any _ _ _ _).mono ?_
  rintro e w4 ⟨rfl, hw4⟩
  have hw4z : w4.heap.size = w3.heap.size + 2 := by rw [hw4]; simp
  have hb34 : Below w3.heap.size w3 w4 := by rw [hw4]; exact hblit.alloc (by simp) _
  have hb4l : Below (w3.heap.size + 1) (w3.alloc (.cells #[.int .i64 (-1), .int .i64 1] 2)) w4 := by
    rw [hw4]
    exact (Below.refl _ _).alloc (by simp) _
  have hcc : w4.cell? ⟨(w3.alloc (.cells #[.int .i64 (-1), .int .i64 1] 2)).heap.size, 0, none⟩ = some (.slice (some ⟨w3.heap.size, 0, none⟩) 2 2) := by rw [hw4]; exact (Boxed.new _ _ _).cell
  have hSL4 : Sl encN w4.heap.size w4 (.slice (some ⟨w3.heap.size, 0, none⟩) 2 2) [-1, 1] := (Sl.below (by rw [World.size_alloc]; exact hb4l) hSL).mono (by rw [World.size_alloc, hw4z]; omega)
  have oc4 : OutB w4 (N + 1 + 1) (.slice none 0 0) [] := oc3.below hb34
  have hPut := putAll_any [-1, 1] (by intro m hm; simp at hm; rcases hm with rfl | rfl <;> exact ⟨by decide, by decide⟩) (by decide) _ _ _ _ (N + 1 + 1) _ [] (by simp) w4 oc4 (by rw [World.size_alloc, hw4z]; omega) hcc hSL4
  rw [listm, World.size_alloc] at hPut
  have HPut := Lib.hid hPut
  have oa4 := oa3.below hb34
  have ob4 := ob3.below hb34
  have hb4 : Below N w w4 := hb3.trans (hb34.mono (by omega))
  have hga4 : ∀ g, va.ownBlock = some g → N + 3 ≤ g := fun g hg => by have := hga g hg; omega
  have hgb4 : ∀ g, vb.ownBlock = some g → N + 3 ≤ g := fun g hg => by have := hgb g hg; omega
  clear hPut hcc hSL hSL4 hblit hb4l hw4 oc3 oc4 oa3 ob3 hb34 hb3 hga hgb
  go_wp2_with fail
  refine HPut.out.mono ?_
  rintro e w5 ⟨rfl, vc, hto⟩
  obtain ⟨oc5, hbc, hgc⟩ := hto.first (by simp)
  have oa5 := oa4.but hbc (by simp; omega) (fun g hg hm => by have := hga4 g hg; simp at hm; omega)
  have ob5 := ob4.but hbc (by simp) (fun g hg hm => by have := hgb4 g hg; simp at hm; omega)
  have hb5 : Below N w w5 := hb4.trans (hbc.below (by simp; omega) (by omega))
  have hz5 : N + 3 ≤ w5.heap.size := by have := hbc.size; omega
  have HDa := Lib.hid (fun W hW => done_str [172, 2] 2 rfl ⟨#[172, 2]⟩ oa5 (by decide) (by decide +kernel) W hW)
  have HDb := Lib.hid (fun W hW => done_str [1] 1 rfl ⟨#[1]⟩ ob5 (by decide) (by decide +kernel) W hW)
  have HDc := Lib.hid (fun W hW => done_str [2, 1, 2] 3 rfl ⟨#[2, 1, 2]⟩ oc5 (by decide) (by decide +kernel) W hW)
  obtain ⟨Z, hZ⟩ : ∃ Z, w5.heap.size = Z := ⟨_, rfl⟩
  rw [hZ] at HDa HDb HDc hz5
  have HZ := Lib.hid hZ
  have HB5 := Lib.hid hb5
  clear oa4 ob4 hto hbc hb4 HPut oa5 ob5 oc5 hga4 hgb4 hgc hb5 hw4z hz3 hN hB0 hZ
  go_wp2_with fail
  refine (HDa.out w5 (Below.refl _ _)).mono ?_
  rintro e w6 ⟨a6, c6, rfl, -, hS6, hb6⟩
  have HF6 := Lib.hid (from_any a6 2 c6 [172, 2] (by decide) w6 hS6)
  have h56 : Below Z w5 w6 := by rw [← HZ.out]; exact hb6
  have hz6 : Z ≤ w6.heap.size := by have := hb6.size; have := HZ.out; omega
  have H56 := Lib.hid h56
  clear hS6 hb6 h56
  go_wp2_with fail
  refine HF6.out.mono ?_
  rintro e w7 ⟨bi, rfl, hbi, hi7, hb7⟩
  have H57 : Hid (Below Z w5 w7) := Lib.hid (H56.out.trans (hb7.mono hz6))
  have HU := Lib.hid (in300 w7.heap.size bi w7 hi7)
  have hz7 : Z ≤ w7.heap.size := Nat.le_trans hz6 hb7.size
  have hbi7 := hi7.lt
  have hbiZ : Z ≤ bi := Nat.le_trans hz6 hbi
  clear hi7 hb7 H56 HF6
  go_wp2_with fail
  refine HU.out.mono ?_
  rintro e w8 ⟨rfl, hi8, hb8⟩
  obtain ⟨q, hq⟩ : ∃ q, w7.heap.size = q := ⟨_, rfl⟩
  rw [hq] at hi8 hz7 hbi7
  have HI8 := Lib.hid hi8
  have H58 : Hid (Below Z w5 w8) := Lib.hid (H57.out.trans (hb8.below (by intro k hk; simp at hk; omega) (by rw [hq]; exact hz7)))
  have hz8 : q ≤ w8.heap.size := by have := hb8.size; omega
  clear hb8 hi8 HU H57 hz6 hq
  go_wp2_with fail
  refine (HDc.out w8 H58.out).mono ?_
  rintro e w9 ⟨a9, c9, rfl, -, hS9, hb9⟩
  have HA1 := Lib.hid (all_1 a9 c9 w9 hS9)
  have H59 : Hid (Below Z w5 w9) := Lib.hid (H58.out.trans (hb9.mono (by omega)))
  have HI9 : Hid (InB q w9 bi [] 0) := Lib.hid (HI8.out.below hb9 hz8 (by omega))
  have hz9 : q ≤ w9.heap.size := Nat.le_trans hz8 hb9.size
  clear hS9 hb9 HI8 H58 hz8
  go_wp2_with fail
  refine HA1.out.mono ?_
  rintro e w10 ⟨aN, cN, rfl, hSN, hb10⟩
  have HSN10 := Lib.hid hSN
  have H510 : Hid (Below Z w5 w10) := Lib.hid (H59.out.trans (hb10.mono (by omega)))
  have HI10 : Hid (InB q w10 bi [] 0) := Lib.hid (HI9.out.below hb10 hz9 (by omega))
  have hz10 : q ≤ w10.heap.size := Nat.le_trans hz9 hb10.size
  clear hSN hb10 HI9 H59 hz9 HA1
  go_wp2_with fail
  refine (HDc.out w10 H510.out).mono ?_
  rintro e w11 ⟨a11, c11, rfl, -, hS11, hb11⟩
  have HA2 := Lib.hid (all_2 a11 c11 w11 hS11)
  have H511 : Hid (Below Z w5 w11) := Lib.hid (H510.out.trans (hb11.mono (by omega)))
  have HI11 : Hid (InB q w11 bi [] 0) := Lib.hid (HI10.out.below hb11 hz10 (by omega))
  have HSN11 : Hid (Sl encN w11.heap.size w11 (.slice aN 2 cN) [-1, 1]) := Lib.hid ((HSN10.out.below hb11).mono hb11.size)
  have hz11 : q ≤ w11.heap.size := Nat.le_trans hz10 hb11.size
  clear hS11 hb11 HI10 H510 hz10 HSN10
  go_wp2_with fail
  refine HA2.out.mono ?_
  rintro e w12 ⟨a12, c12, rfl, hb12⟩
  have H512 : Hid (Below Z w5 w12) := Lib.hid (H511.out.trans (hb12.mono (by omega)))
  have HI12 : Hid (InB q w12 bi [] 0) := Lib.hid (HI11.out.below hb12 hz11 (by omega))
  have HSN12 : Hid (Sl encN w12.heap.size w12 (.slice aN 2 cN) [-1, 1]) := Lib.hid ((HSN11.out.below hb12).mono hb12.size)
  have hz12 : q ≤ w12.heap.size := Nat.le_trans hz11 hb12.size
  clear hb12 HI11 H511 hz11 HSN11 HA2
  go_wp2_with fail
  have hBm : Below w12.heap.size w12 (w12.alloc (.cells #[.int .u8 1, .int .u8 128] 5)) := (Below.refl _ _).alloc (Nat.le_refl _) _
  refine (all_3 _ _ _ (lit_at _ w12 rfl [1, 128] 2 rfl #[.int .u8 1, .int .u8 128] (0, 0) rfl)).mono ?_
  rintro e w13 ⟨a13, c13, rfl, hb13⟩
  have hb1213 : Below w12.heap.size w12 w13 := hBm.trans (hb13.mono hBm.size)
  have H513 : Hid (Below Z w5 w13) := Lib.hid (H512.out.trans (hb1213.mono (by omega)))
  have HI13 : Hid (InB q w13 bi [] 0) := Lib.hid (HI12.out.below hb1213 hz12 (by omega))
  have HSN13 : Hid (Sl encN w13.heap.size w13 (.slice aN 2 cN) [-1, 1]) := Lib.hid ((HSN12.out.below hb1213).mono hb1213.size)
  have hz13 : q ≤ w13.heap.size := Nat.le_trans hz12 hb1213.size
  clear hb13 HI12 H512 hz12 HSN12 hBm hb1213
  obtain ⟨D, hD⟩ : ∃ D, w13.heap.size = D := ⟨_, rfl⟩
  have HD := Lib.hid hD
  have hcv2 := hcv (w13.alloc (.cells #[.slice none 0 0] 48)) #[.int .u8 120, .int .u8 121] 2 2
  rw [World.size_alloc, hD] at hcv2
  go_wp2_with fail
  obtain ⟨W14, hW14⟩ : ∃ W14, (w13.alloc (.cells #[.slice none 0 0] 48)).alloc (.cells #[.int .u8 120, .int .u8 121] 5 (2, 3)) = W14 := ⟨_, rfl⟩
  have hbe : Below D w13 W14 := by
    rw [← hW14, ← HD.out]
    exact ((Below.refl _ w13).alloc (Nat.le_refl _) _).alloc (by simp) _
  have hod : OutB W14 D (.slice none 0 0) [] := by
    rw [← hW14, ← HD.out]
    exact (OutB.new w13).below ((Below.refl _ _).alloc (Nat.le_refl _) _)
  have hslit : Sl encY W14.heap.size W14 (.slice (some ⟨D + 1, 0, none⟩) 2 2) [120, 121] := by
    rw [← hW14, ← HD.out]
    exact lit_at (w13.heap.size + 1) _ (by simp) [120, 121] 2 rfl _ (2, 3) rfl
  rw [hW14]
  refine (out_xy _ _ D W14 hod hslit (fun ad n c e h0 hm => by cases e; simp at hm)).mono ?_
  rintro e w15 ⟨rfl, ⟨vd, hod15⟩, hbd⟩
  have hb1315 : Below D w13 w15 := hbe.trans (hbd.below (by simp) (by have := hbe.size; have := HD.out; omega))
  have H515 : Hid (Below Z w5 w15) := Lib.hid (H513.out.trans (hb1315.mono (by have := HD.out; omega)))
  have HI15 : Hid (InB q w15 bi [] 0) := Lib.hid (HI13.out.below hb1315 (by have := HD.out; omega) (by have := HD.out; omega))
  have HSN15 : Hid (Sl encN w15.heap.size w15 (.slice aN 2 cN) [-1, 1]) := Lib.hid ((HSN13.out.below (hb1315.mono (by rw [HD.out]; exact Nat.le_refl _))).mono hb1315.size)
  have hz15 : q ≤ w15.heap.size := Nat.le_trans hz13 hb1315.size
  have hb15 : Below N w w15 := HB5.out.trans (H515.out.mono (by omega))
  have HB15 := Lib.hid hb15
  obtain ⟨Y, hY⟩ : ∃ Y, w15.heap.size = Y := ⟨_, rfl⟩
  rw [hY] at hz15
  have HDd := Lib.hid (fun W hW => done_str [2, 120, 121] 3 rfl ⟨#[2, 120, 121]⟩ hod15 (by decide) (by decide +kernel) W hW)
  rw [hY] at HDd
  have HY := Lib.hid hY
  have hNY : N ≤ Y := by have := HB5.out.size; have := H515.out.size; omega
  clear hbe hod hslit hbd hb1315 hod15 hW14 HI13 H513 HSN13 hz13 hD hY hb15 HB5
  go_wp2_with fail
  have hY15 : Below Y w15 w15 := Below.refl _ _
  refine (HDa.out w15 H515.out).mono ?_
  rintro e w16 ⟨a16, c16, rfl, hs16, -, hb16⟩
  have H516 : Hid (Below Z w5 w16) := Lib.hid (H515.out.trans (hb16.mono (by have := HY.out; omega)))
  have hY16 : Below Y w15 w16 := hb16.mono (by have := HY.out; omega)
  have hz16 : Y ≤ w16.heap.size := by have := hY16.size; have := HY.out; omega
  have HY16 := Lib.hid hY16
  clear hb16 hY16 hY15 H515 hcv hcv2
  go_wp2_with fail
  refine (HDb.out w16 H516.out).mono ?_
  rintro e w17 ⟨a17, c17, rfl, hs17, -, hb17⟩
  have H517 : Hid (Below Z w5 w17) := Lib.hid (H516.out.trans (hb17.mono (by omega)))
  have HY17 : Hid (Below Y w15 w17) := Lib.hid (HY16.out.trans (hb17.mono hz16))
  have hz17 : Y ≤ w17.heap.size := Nat.le_trans hz16 hb17.size
  clear hb17 H516 HY16 hz16 hs16
  go_wp2_with fail
  refine (HDc.out w17 H517.out).mono ?_
  rintro e w18 ⟨a18, c18, rfl, hs18, -, hb18⟩
  have HY18 : Hid (Below Y w15 w18) := Lib.hid (HY17.out.trans (hb18.mono hz17))
  have hz18 : Y ≤ w18.heap.size := Nat.le_trans hz17 hb18.size
  have HI18 : Hid (InB q w18 bi [] 0) := Lib.hid (HI15.out.below HY18.out hz15 (by omega))
  have HLF := Lib.hid (left_any q bi 0 [] (by decide) w18 HI18.out)
  have HEF := Lib.hid (err_any q bi 0 [] w18 HI18.out)
  obtain ⟨bN, oN, hN1, hN2, hN3⟩ : ∃ bN oN, aN = some ⟨bN, oN, none⟩ ∧ bN < Y ∧ w15.cell? ⟨bN, oN, none⟩ = some (.int .i64 (-1)) := by
    rcases HSN15.out with ⟨h, _⟩ | ⟨g, off, cap, e, hg, _, hc⟩
    · cases h
    · cases e
      exact ⟨g, off, rfl, by rw [← HY.out]; exact hg, hc 0 (-1) rfl⟩
  subst hN1
  have hcN : w18.cell? ⟨bN, oN, none⟩ = some (.int .i64 (-1)) := (HY18.out.cell (p := ⟨bN, oN, none⟩) hN2).trans hN3
  clear hb18 H517 HY17 hz17 hs17 HI15 HSN15 hN3
  go_wp2_with fail
  refine HLF.out.mono ?_
  rintro e w19 ⟨rfl, rfl⟩
  clear hs18 HLF
  go_wp2_with fail
  refine HEF.out.mono ?_
  rintro e w20 ⟨rfl, rfl⟩
  clear HEF
  go_wp2_with fail
  refine (HDd.out w20 HY18.out).mono ?_
  rintro e w21 ⟨a21, c21, rfl, -, hS21, hb21⟩
  have hY21 : Below Y w15 w21 := HY18.out.trans (hb21.mono hz18)
  have hz21 : Y ≤ w21.heap.size := Nat.le_trans hz18 hb21.size
  have HF21 := Lib.hid (from_any a21 3 c21 [2, 120, 121] (by decide) w21 hS21)
  have HY21 := Lib.hid hY21
  clear hS21 hb21 hY21 HY18 HI18 hcN
  go_wp2_with fail
  refine HF21.out.mono ?_
  rintro e w22 ⟨bj, rfl, hbj, hi22, hb22⟩
  have HX22 := Lib.hid (bytes_xy w22.heap.size bj w22 hi22)
  have HY22 : Hid (Below Y w15 w22) := Lib.hid (HY21.out.trans (hb22.mono hz21))
  have hbjY : Y ≤ bj := Nat.le_trans hz21 hbj
  have hz22 : Y ≤ w22.heap.size := Nat.le_trans hz21 hb22.size
  clear hi22 hb22 HY21 HF21
  go_wp2_with fail
  refine HX22.out.mono ?_
  rintro e w23 ⟨a23, c23, rfl, hs23, hb23⟩
  have HB23 : Hid (Below N w w23) := Lib.hid ((HB15.out.trans ((HY22.out.trans (hb23.below (by intro k hk; simp at hk; omega) hz22)).mono hNY)))
  clear hb23 HY22 HX22
  go_wp2
  go_ret
  exact ⟨rfl, by rw [HN.out]; exact HB23.out⟩
end Go.Proofs.Ytbdigpfeedcgaaa
