/- The document's example of layer 4 is answered as it says. -/
import Derived.Test.YtdimjeppcfacdaaDevH
import Derived.Lib.SlBytesConst
import Derived.Shelf.Bytes.SlEqualAll
namespace Go.Proofs.Ytdimjeppcfacdaa
open Go.RowKit

theorem lit_m (N : Nat) (w : World) (hN : w.heap.size = N) (xs : List Nat) (n : Nat) (hn : xs.length = n) (cs : Array Value) (fr : Nat × Nat) (h : cs = (xs.map encY).toArray) : Sl encY (w.alloc (.cells cs 5 fr)).heap.size (w.alloc (.cells cs 5 fr)) (.slice (some ⟨N, 0, none⟩) n n) xs := by
  subst hN; subst hn
  refine .inr ⟨w.heap.size, 0, xs.length, rfl, by simp, Nat.le_refl _, fun j x hj => ?_⟩
  have h2 := World.alloc_heap_new w (.cells cs 5 fr)
  simp only [World.cell?]
  rw [h2, h, Nat.zero_add]
  simp [hj]
theorem bytesIn_m {w : World} {n : Nat} {a : Option Addr} {m c : Nat} {l : List Nat} (h : Sl encY n w (.slice a m c) l) : Lib.BytesIn w a m (l.map Int.ofNat) := by
  intro hm
  rcases h with ⟨rfl, a', c', e, _⟩ | ⟨b, off, cap, e, hb, _, hc⟩
  · cases e; omega
  · cases e
    refine ⟨b, off, rfl, fun i hi => ?_⟩
    rw [hc i (l[i]) (List.getElem?_eq_getElem hi)]
    simp [encY, List.getD, hi]
theorem str_of {w : World} {n : Nat} {a : Option Addr} {m c : Nat} {l : List Nat} (h : Sl encY n w (.slice a m c) l) : (convert 22 9 (.slice a m c)).run Try.prog w = .ok (.string (strOfNums (l.map Int.ofNat))) w :=
  (bytesIn_m h).convert (P := Try.prog) (by rw [List.length_map]; exact h.len.symm) c 22 5 9 Try.underlying22 Try.underlying5 Try.underlying9
theorem step_dev {w W W' : World} {own own' : List Nat} (hB : Below w.heap.size w W) (ho : ∀ k ∈ own, w.heap.size ≤ k) (hb : But own W W') (hs : ∀ k ∈ own', k ∈ own ∨ W.heap.size ≤ k) : Below w.heap.size w W' ∧ ∀ k ∈ own', w.heap.size ≤ k :=
  ⟨hB.trans (hb.below ho hB.size), fun k hk => (hs k hk).elim (ho k) (fun h => Nat.le_trans hB.size h)⟩
theorem off_new {own : List Nat} {W : World} {b : Nat} {D : DevS} {v0 v1 : Value} (h : Dev own W b D v0 v1) {N n c : Nat} (hN : W.heap.size ≤ N) : Off own (.slice (some ⟨N, 0, none⟩) n c) := fun ad m c' e _ hk => by
  cases e
  have := h.lt _ hk
  simp at this; omega
theorem off_nil (own : List Nat) (n c : Nat) : Off own (.slice none n c) := fun ad m c' e _ _ => by cases e

def A0 : DevS := newD 10
def A1 : DevS := cutS A0 2
def A2 : DevS := (appS A1 0 [97, 98, 99]).1
def A3 : DevS := restoreS A2
def A4 : DevS := cutS A3 1
def A5 : DevS := (truncS A4 0 0).1
def A6 : DevS := restoreS A5
def z10 : List Nat := List.replicate 10 0
def A7 : DevS := (appS A6 0 z10).1
def A8 : DevS := loadS A6 1 [120, 121, 122]
theorem a1 : (appS A1 0 [97, 98, 99]).2 = 30 := by decide +kernel
theorem a2 : A2.row 0 = [97, 98] := by decide +kernel
theorem a3 : A2.down = true := by decide +kernel
theorem a4 : (truncS A4 0 0).2 = 30 := by decide +kernel
theorem a5 : A5.row 0 = [97] := by decide +kernel
theorem a6 : (appS A6 0 z10).2 = 6 := by decide +kernel
theorem a7 : (A7.row 1).length = 0 := by decide +kernel
theorem a8 : (A8.row 1).length = 3 := by decide +kernel
theorem a9 : A8.cap = 10 := by decide +kernel
theorem a10 : A8.turned = 3 := by decide +kernel
theorem a11 : (appS A8 2 []).2 = 1 := by decide +kernel
theorem s_ab : strOfNums ([97, 98].map Int.ofNat) = ⟨#[97, 98]⟩ := by decide +kernel
theorem s_a : strOfNums ([97].map Int.ofNat) = ⟨#[97]⟩ := by decide +kernel

set_option maxRecDepth 100000 in
set_option maxHeartbeats 4000000 in
theorem devAlive_any (w : World) : Calls Try.prog 17 #[] w fun e w' => e = .returned (.bool true) ∧ Below w.heap.size w w' := by
  obtain ⟨i0, hi, hz0, hz1, hz2⟩ := info_parts info8
  have hcv := fun (w : World) (C : Array Value) (n c : Nat) => Lib.run_convert_bytes_const (P := Try.prog) w 22 5 C n c Try.underlying22 Try.underlying5
  go_enter Try.func17, Try.ntmps17
  go_wp2_with fail
  refine (new_any 10 w).mono ?_
  rintro e w1 ⟨rfl, d1, hB1⟩
  have o1 : ∀ k ∈ [w.heap.size], w.heap.size ≤ k := by simp
  go_wp2_with fail
  refine (cut_to 2 (by decide) w1 d1).mono ?_
  rintro e w2 ⟨rfl, own2, x2, y2, d2, b2, s2⟩
  obtain ⟨hB2, o2⟩ := step_dev hB1 o1 b2 s2
  clear b2 s2 d1 hB1 o1
  go_wp2_with fail
  have hBl : Below w2.heap.size w2 (w2.alloc (.cells #[.int .u8 97, .int .u8 98, .int .u8 99] 5 (3, 4))) := (Below.refl _ _).alloc (Nat.le_refl _) _
  refine (app_any 0 _ _ _ [97, 98, 99] (by decide) _ (d2.below hBl) (lit_m _ w2 rfl [97, 98, 99] 3 rfl #[.int .u8 97, .int .u8 98, .int .u8 99] (3, 4) rfl) (off_new d2 (Nat.le_refl _))).mono ?_
  rintro e w3 ⟨rfl, own3, x3, y3, d3, b3, s3⟩
  have d3' : Dev own3 w3 w.heap.size A2 x3 y3 := d3
  rw [show (appS (cutS (newD 10) 2) 0 [97, 98, 99]).2 = 30 from a1]
  obtain ⟨hB3, o3⟩ := step_dev (hB2.trans (hBl.mono hB2.size)) o2 b3 s3
  clear b3 s3 d2 hB2 o2 hBl d3
  go_wp2_with fail
  refine (bytes_any 0 w3 d3').mono ?_
  rintro e w4 ⟨v4, rfl, hown4, hb4⟩
  rw [a2] at hown4
  have d4 := d3'.below hb4
  have hB4 := hB3.trans (hb4.mono hB3.size)
  have hS4 := Sl.of_owns hown4
  obtain ⟨p4, c4, rfl⟩ := hS4.form
  have hstr4 : (convert 22 9 (.slice p4 2 c4)).run Try.prog w4 = .ok (.string ⟨#[97, 98]⟩) w4 := by have := str_of hS4; rw [s_ab] at this; exact this
  have hdn := down_any w4 d4.blk
  rw [a3] at hdn
  have HDN := Lib.hid hdn
  clear hown4 hb4 hB3 hS4 hdn d3'
  go_wp2_with fail
  refine HDN.out.mono ?_
  rintro e w' ⟨rfl, rfl⟩
  clear hstr4 HDN
  go_wp2_with fail
  refine (restore_to w4 d4).mono ?_
  rintro e w5 ⟨rfl, own5, x5, y5, d5, b5, s5⟩
  obtain ⟨hB5, o5⟩ := step_dev hB4 o3 b5 s5
  clear b5 s5 d4 hB4 o3
  go_wp2_with fail
  refine (cut_to 1 (by decide) w5 d5).mono ?_
  rintro e w6 ⟨rfl, own6, x6, y6, d6, b6, s6⟩
  obtain ⟨hB6, o6⟩ := step_dev hB5 o5 b6 s6
  have d6' : Dev own6 w6 w.heap.size A4 x6 y6 := d6
  clear b6 s6 d5 hB5 o5 d6
  go_wp2_with fail
  refine (trunc_any 0 0 w6 d6').mono ?_
  rintro e w7 ⟨rfl, own7, x7, y7, d7, b7, s7⟩
  rw [a4]
  obtain ⟨hB7, o7⟩ := step_dev hB6 o6 b7 s7
  have d7' : Dev own7 w7 w.heap.size A5 x7 y7 := d7
  clear b7 s7 d6' hB6 o6 d7
  go_wp2_with fail
  refine (bytes_any 0 w7 d7').mono ?_
  rintro e w8 ⟨v8, rfl, hown8, hb8⟩
  rw [a5] at hown8
  have d8 := d7'.below hb8
  have hB8 := hB7.trans (hb8.mono hB7.size)
  have hS8 := Sl.of_owns hown8
  obtain ⟨p8, c8, rfl⟩ := hS8.form
  have hstr8 : (convert 22 9 (.slice p8 1 c8)).run Try.prog w8 = .ok (.string ⟨#[97]⟩) w8 := by have := str_of hS8; rw [s_a] at this; exact this
  clear hown8 hb8 hB7 hS8 d7'
  go_wp2_with fail
  refine (restore_to w8 d8).mono ?_
  rintro e w9 ⟨rfl, own9, x9, y9, d9, b9, s9⟩
  obtain ⟨hB9, o9⟩ := step_dev hB8 o7 b9 s9
  have d9' : Dev own9 w9 w.heap.size A6 x9 y9 := d9
  clear b9 s9 d8 hB8 o7 hstr8 d9
  go_wp2_with fail
  refine (clone_any w9 d9').mono ?_
  rintro e w10 ⟨ownc, xc, yc, rfl, c10, hb10, oc⟩
  have d10 := d9'.below hb10
  have hB10 := hB9.trans (hb10.mono hB9.size)
  have hdis : ∀ k ∈ ownc, k ∉ own9 := fun k hk hk2 => by have h1 := oc k hk; have h2 := d9'.lt k hk2; omega
  have hz9 := hB9.size
  clear hb10 hB9 d9'
  go_wp2_with (refine wpList_make_full _ rfl (.const (.int .i64 10)) (.const (.int .i64 10)) 22 rfl w10.heap.size 5 i0 (.int .u8 0) 1 Try.underlying22 hi hz0 hz1 .i64 .i64 _ _ 10 rfl rfl rfl rfl (by rw [hz2]; decide) (by decide) (Nat.le_refl _) ?_)
  intro w11 hown11 hg11
  have hb11 : Below w10.heap.size w10 w11 := (Below.refl _ _).grown hg11 (Nat.le_refl _) (fun k h => by cases h)
  rw [toList_madeCells_one] at hown11
  have hown11' : w11.ownsRow w10.heap.size 5 1 (.slice (some ⟨w10.heap.size, 0, none⟩) 10 10) z10.length (z10.map encY) := hown11
  have hS11 : Sl encY w11.heap.size w11 (.slice (some ⟨w10.heap.size, 0, none⟩) 10 10) z10 := Sl.of_owns hown11'
  have hB11 := hB10.trans (hb11.mono hB10.size)
  have d11 := d10.below hb11
  have c11 := c10.below hb11
  clear hown11 hown11' hg11 hB10
  go_wp2_with fail
  refine (app_any 0 _ _ _ z10 (by decide +kernel) _ c11 hS11 (off_new c10 (Nat.le_refl _))).mono ?_
  rintro e w12 ⟨rfl, ownk, xk, yk, c12, b12, s12⟩
  rw [a6]
  have c12' : Dev ownk w12 w9.heap.size A7 xk yk := c12
  have d12 := d11.but b12 (fun k hk hk2 => hdis k hk2 hk)
  have hoc : ∀ k ∈ ownc, w.heap.size ≤ k := fun k hk => Nat.le_trans hz9 (oc k hk)
  have hdis2 : ∀ k ∈ ownk, k ∉ own9 := fun k hk hk2 => by
    rcases s12 k hk with h1 | h1
    · exact hdis k h1 hk2
    · have := d11.lt k hk2; omega
  obtain ⟨hB12, o12⟩ := step_dev hB11 hoc b12 s12
  clear b12 s12 c11 hB11 hS11 d11 hoc hdis c10 d10 hb11 c12
  go_wp2_with fail
  have hBl : Below w12.heap.size w12 (w12.alloc (.cells #[.int .u8 120, .int .u8 121, .int .u8 122] 5 (3, 4))) := (Below.refl _ _).alloc (Nat.le_refl _) _
  refine (load_any 1 _ _ _ [120, 121, 122] ⟨by decide, by decide⟩ _ (d12.below hBl) (lit_m _ w12 rfl [120, 121, 122] 3 rfl #[.int .u8 120, .int .u8 121, .int .u8 122] (3, 4) rfl)).mono ?_
  rintro e w13 ⟨rfl, own13, x13, y13, d13, b13, s13⟩
  have d13' : Dev own13 w13 w.heap.size A8 x13 y13 := d13
  have c13 := (c12'.below hBl).but b13 hdis2
  obtain ⟨hB13, o13⟩ := step_dev (hB12.trans (hBl.mono hB12.size)) o9 b13 s13
  clear b13 s13 d12 c12' hB12 hBl d13 hdis2 o12
  have L1 := len_any 1 w13 d13'
  rw [a8] at L1
  have L2 := len_any 1 w13 c13
  rw [a7] at L2
  have L3 := capacity_any w13 d13'.blk
  rw [a9] at L3
  have L4 := turned_any w13 d13'.blk
  rw [a10] at L4
  have HL1 := Lib.hid L1
  have HL2 := Lib.hid L2
  have HL3 := Lib.hid L3
  have HL4 := Lib.hid L4
  clear L1 L2 L3 L4 hz9
  go_wp2_with fail
  refine HL1.out.mono ?_
  rintro e w' ⟨rfl, rfl⟩
  go_wp2_with fail
  refine HL2.out.mono ?_
  rintro e w' ⟨rfl, rfl⟩
  go_wp2_with fail
  refine HL3.out.mono ?_
  rintro e w' ⟨rfl, rfl⟩
  go_wp2_with fail
  refine HL4.out.mono ?_
  rintro e w' ⟨rfl, rfl⟩
  go_wp2_with fail
  refine (app_any 2 _ _ _ [] (fun x hx => by cases hx) w13 d13' (Sl.nil _ _ _) (off_nil _ _ _)).mono ?_
  rintro e w14 ⟨rfl, own14, x14, y14, d14, b14, s14⟩
  rw [a11]
  obtain ⟨hB14, o14⟩ := step_dev hB13 o13 b14 s14
  clear b14 s14 d14 HL1 HL2 HL3 HL4 d13' c13 hB13
  go_wp2
  go_ret
  exact ⟨rfl, hB14⟩
end Go.Proofs.Ytdimjeppcfacdaa
