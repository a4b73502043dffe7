/- journal: newest, pieces, headOf, Heavy. -/
import Derived.Test.YtocmfdahnekboaaDoorJrnA
import Derived.Test.YtocmfdahnekboaaDoorDevH
import Derived.Test.YtocmfdahnekboaaDoorCodA
namespace Go.Proofs.YtocmfdahnekboaaDoor
open Go.RowKit
set_option linter.unusedVariables false
attribute [local go_sem] Oper.semAt_some

/-- The region of a device's journal, and what it has. -/
def newestS (D : DevS) : Nat × (Nat × Nat × Nat) := if (keptS D.r0).1 < (keptS D.r1).1 then (1, keptS D.r1) else (0, keptS D.r0)
theorem kept_res2 (f : Func) (s r : Nat) (hf : f.results = #[.tmp r, .cell s 69]) (tmps : Array Value) (w : World) (b : Nat) (v0 v1 v2 x : Value) (hp : tmps.getD s undef = .pointer (some ⟨b, 0, none⟩)) (hr : tmps.getD r undef = x)
    (hg : w.heap[b]? = some (.cells #[v0, v1, v2] 69 (0, 0))) : (results f tmps).run Tryd.prog w = .ok (.tuple #[x, .agg #[v0, v1, v2]]) w := by
  have hp' : tmps[s]?.getD undef = .pointer (some ⟨b, 0, none⟩) := by simpa using hp
  have hr' : tmps[r]?.getD undef = x := by simpa using hr
  have k1 := run_loadVar_row (P := Tryd.prog) w b 69 69 #[v0, v1, v2] (0, 0) _ hg Tryd.underlying69 rfl (by kernel_rfl)
  simp [results, hf, hp', hr', asAddr, k1]
theorem set3_but (W : World) (b : Nat) {v0 v1 v2 : Value} : But [b] W (((W.setCell ⟨b, 0, none⟩ v0).setCell ⟨b, 1, none⟩ v1).setCell ⟨b, 2, none⟩ v2) := (((But.refl _ _).set (by simp) _).set (by simp) _).set (by simp) _
theorem heap_set3 {W : World} {b : Nat} {t : TypeId} {x0 x1 x2 v0 v1 v2 : Value} (h : W.heap[b]? = some (.cells #[x0, x1, x2] t (0, 0))) :
    (((W.setCell ⟨b, 0, none⟩ v0).setCell ⟨b, 1, none⟩ v1).setCell ⟨b, 2, none⟩ v2).heap[b]? = some (.cells #[v0, v1, v2] t (0, 0)) :=
  heap_setCell_same _ b 2 _ t v2 (heap_setCell_same _ b 1 _ t v1 (heap_setCell_same W b 0 _ t v0 h))

set_option maxRecDepth 100000 in
set_option maxHeartbeats 8000000 in
theorem newest_any {own : List Nat} {b : Nat} {D : DevS} {v0 v1 : Value} (w : World) (h : Dev own w b D v0 v1) :
    Calls Tryd.prog 46 #[.pointer (some ⟨b, 0, none⟩)] w fun e w' => e = .returned (.tuple #[.int .i64 ((newestS D).1 : Nat), .agg #[.int .u64 ((newestS D).2.1 : Nat), .int .i64 ((newestS D).2.2.1 : Nat), .int .i64 ((newestS D).2.2.2 : Nat)]]) ∧ Below w.heap.size w w' := by
  have HD := Lib.hid h
  have hcap := h.ok.cap
  have hl0 := h.ok.l0
  have hl1 := h.ok.l1
  have B0 : Hid (Bytes D.r0) := Lib.hid ⟨by omega, h.ok.b0⟩
  have B1 : Hid (Bytes D.r1) := Lib.hid ⟨by omega, h.ok.b1⟩
  have HL0 : Hid (D.r0.length ≤ 1048576) := Lib.hid (by omega)
  have HL1 : Hid (D.r1.length ≤ 1048576) := Lib.hid (by omega)
  have hzk : ∀ (w : World), (zeroValue 69).run Tryd.prog w = .ok (.agg #[.int .u64 0, .int .i64 0, .int .i64 0]) w := fun w => by kernel_rfl
  clear h hcap hl0 hl1
  obtain ⟨N, hN⟩ : ∃ N, newestS D = N := ⟨_, rfl⟩
  rw [hN]
  obtain ⟨T0, hT0⟩ : ∃ T, keptS D.r0 = T := ⟨_, rfl⟩
  obtain ⟨T1, hT1⟩ : ∃ T, keptS D.r1 = T := ⟨_, rfl⟩
  have HN : Hid ((if T0.1 < T1.1 then (1, T1) else (0, T0)) = N) := Lib.hid (by rw [← hN, ← hT0, ← hT1]; rfl)
  have HT0 := Lib.hid hT0
  have HT1 := Lib.hid hT1
  clear hN hT0 hT1
  obtain ⟨a0, c0, e0⟩ := T0
  obtain ⟨a1, c1, e1⟩ := T1
  go_enter Tryd.func46, Tryd.ntmps46
  go_wp2_with fail
  have hb1 : Below w.heap.size w (w.alloc (.cells #[.int .u64 0, .int .i64 0, .int .i64 0] 69)) := (Below.refl _ _).alloc (Nat.le_refl _) _
  have hR1 : (w.alloc (.cells #[.int .u64 0, .int .i64 0, .int .i64 0] 69)).heap[w.heap.size]? = some (.cells #[.int .u64 0, .int .i64 0, .int .i64 0] 69 (0, 0)) := World.alloc_heap_new _ _
  obtain ⟨w1, hw1⟩ : ∃ w1, w.alloc (.cells #[.int .u64 0, .int .i64 0, .int .i64 0] 69) = w1 := ⟨_, rfl⟩
  rw [hw1] at hb1 hR1 ⊢
  have hNl : w.heap.size < w1.heap.size := (Array.getElem?_eq_some_iff.1 hR1).1
  have HR1 := Lib.hid hR1
  have HB1 := Lib.hid hb1
  clear hw1 hR1
  refine (bytes_any 0 w1 (HD.out.below hb1)).mono ?_
  rintro e w2 ⟨u2, rfl, hu2, hb2⟩
  have hS2 : Sl encY w2.heap.size w2 u2 (D.row 0) := Sl.of_owns hu2
  rw [show D.row 0 = D.r0 from rfl] at hS2
  obtain ⟨p2, q2, hf2⟩ := hS2.form
  subst hf2
  have HR2 := Lib.hid (jread_any p2 q2 D.r0 B0.out HL0.out w2 hS2)
  rw [HT0.out] at HR2
  dsimp only at HR2
  have HB2 := Lib.hid hb2
  have Hz2 := hb2.size
  clear hu2 hS2 hb2 hb1
  go_wp2_with fail
  refine HR2.out.mono ?_
  rintro e w3 ⟨rfl, hb3⟩
  have hB3 := HB2.out.trans (hb3.mono HB2.out.size)
  have Hz3 := hb3.size
  have HY := Lib.hid (bytes_any 1 w3 (HD.out.below (HB1.out.trans (hB3.mono HB1.out.size))))
  have HB3 := Lib.hid hB3
  clear hb3 hB3 HR2 HB2
  go_wp2_with fail
  refine HY.out.mono ?_
  rintro e w4 ⟨u4, rfl, hu4, hb4⟩
  have hS4 : Sl encY w4.heap.size w4 u4 (D.row 1) := Sl.of_owns hu4
  rw [show D.row 1 = D.r1 from rfl] at hS4
  obtain ⟨p4, q4, hf4⟩ := hS4.form
  subst hf4
  have HR4 := Lib.hid (jread_any p4 q4 D.r1 B1.out HL1.out w4 hS4)
  rw [HT1.out] at HR4
  dsimp only at HR4
  have HB4 := Lib.hid (HB3.out.trans (hb4.mono HB3.out.size))
  have Hz4 := hb4.size
  clear hu4 hS4 hb4 HY HB3
  go_wp2_with fail
  refine HR4.out.mono ?_
  rintro e w5 ⟨rfl, hb5⟩
  have hB5 := HB4.out.trans (hb5.mono HB4.out.size)
  have Hz5 := hb5.size
  have HB5 := Lib.hid hB5
  clear hb5 hB5 HR4 HB4
  have hR5 := (HB5.out.block w.heap.size hNl).trans HR1.out
  have hNl5 := (Array.getElem?_eq_some_iff.1 hR5).1
  have hB05 : Below w.heap.size w w5 := HB1.out.trans (HB5.out.mono HB1.out.size)
  have r0 : w5.cell? ⟨w.heap.size, 0, none⟩ = some (.int .u64 0) := cell_of_row w5 _ 0 _ _ _ hR5
  have r1 : w5.cell? ⟨w.heap.size, 1, none⟩ = some (.int .i64 0) := cell_of_row w5 _ 1 _ _ _ hR5
  have r2 : w5.cell? ⟨w.heap.size, 2, none⟩ = some (.int .i64 0) := cell_of_row w5 _ 2 _ _ _ hR5
  have g0 := frozen_of_row w5 w.heap.size 0 _ _ hR5
  have g1 := frozen_of_row w5 w.heap.size 1 _ _ hR5
  have g2 := frozen_of_row w5 w.heap.size 2 _ _ hR5
  have HR5 := Lib.hid hR5
  have HB05 := Lib.hid hB05
  have hne1 : w.heap.size ≠ w5.heap.size := by omega
  have hne2 : w.heap.size ≠ w5.heap.size + 1 := by omega
  have FIN : Hid (∀ (v0 v1 v2 : Value) (o1 o2 : Obj), ((((((w5.setCell ⟨w.heap.size, 0, none⟩ v0).setCell ⟨w.heap.size, 1, none⟩ v1).setCell ⟨w.heap.size, 2, none⟩ v2).alloc o1).alloc o2).drew).heap[w.heap.size]? = some (.cells #[v0, v1, v2] 69 (0, 0)) ∧ Below w.heap.size w ((((((w5.setCell ⟨w.heap.size, 0, none⟩ v0).setCell ⟨w.heap.size, 1, none⟩ v1).setCell ⟨w.heap.size, 2, none⟩ v2).alloc o1).alloc o2).drew)) := Lib.hid (fun v0 v1 v2 o1 o2 => by
    have hA := heap_set3 (v0 := v0) (v1 := v1) (v2 := v2) HR5.out
    have hb := set3_but w5 w.heap.size (v0 := v0) (v1 := v1) (v2 := v2)
    have hz := hb.size
    have hB : Below w.heap.size w (((w5.setCell ⟨w.heap.size, 0, none⟩ v0).setCell ⟨w.heap.size, 1, none⟩ v1).setCell ⟨w.heap.size, 2, none⟩ v2) := HB05.out.trans (hb.below (n := w.heap.size) (by simp) HB05.out.size)
    refine ⟨(Below.heap_alloc _ _ _ (by simp; omega)).trans ((Below.heap_alloc _ _ _ (by omega)).trans hA), ((hB.alloc hB.size _).alloc (by have := hB.size; simp at this ⊢; omega) _).drew⟩)
  clear hR5 hB05
  by_cases hlt : a0 < a1
  · have hlti : (a0 : Int) < (a1 : Int) := by omega
    have HNE : Hid (N = (1, a1, c1, e1)) := Lib.hid (by rw [← HN.out]; exact if_pos hlt)
    go_wp2_with fail
    go_region
    all_goals go_wp2
    all_goals refine bodyPost_ret (kept_res2 _ 3 2 rfl _ _ w.heap.size _ _ _ _ rfl rfl (FIN.out _ _ _ _ _).1) rfl ⟨?_, (FIN.out _ _ _ _ _).2⟩
    all_goals rw [HNE.out]
    all_goals rfl
  · have hlti : ¬ (a0 : Int) < (a1 : Int) := by omega
    have HNE : Hid (N = (0, a0, c0, e0)) := Lib.hid (by rw [← HN.out]; exact if_neg hlt)
    go_wp2_with fail
    go_region
    all_goals go_wp2
    all_goals refine bodyPost_ret (kept_res2 _ 3 2 rfl _ _ w.heap.size _ _ _ _ rfl rfl (FIN.out _ _ _ _ _).1) rfl ⟨?_, (FIN.out _ _ _ _ _).2⟩
    all_goals rw [HNE.out]
    all_goals rfl

/-- How many pieces a snapshot has. -/
def piecesN (n : Nat) : Nat := if 0 < n % 4096 then n / 4096 + 1 else n / 4096
theorem pieces_any (n : Nat) (hn : n ≤ 1099511627776) (w : World) : Calls Tryd.prog 40 #[.int .i64 (n : Nat)] w fun e w' => e = .returned (.int .i64 (piecesN n : Nat)) ∧ w = w' := by
  have hr : ((n : Nat) : Int).tmod 4096 = ((n % 4096 : Nat) : Int) := by rw [Int.tmod_eq_emod_of_nonneg (by omega)]; omega
  have hq : ((n : Nat) : Int).tdiv 4096 = ((n / 4096 : Nat) : Int) := by rw [Int.tdiv_eq_ediv_of_nonneg (by omega)]; omega
  obtain ⟨r, hr1⟩ : ∃ r, n % 4096 = r := ⟨_, rfl⟩
  obtain ⟨q, hq1⟩ : ∃ q, n / 4096 = q := ⟨_, rfl⟩
  have hql : q ≤ 1099511627776 := by rw [← hq1]; exact Nat.le_trans (Nat.div_le_self _ _) hn
  have hp : piecesN n = if 0 < r then q + 1 else q := by unfold piecesN; rw [hr1, hq1]
  rw [hr1] at hr
  rw [hq1] at hq
  rw [hp]
  clear hr1 hq1 hp
  by_cases h0 : 0 < r
  · have h0i : (0 : Int) < (r : Nat) := by omega
    rw [if_pos h0]
    go_enter Tryd.func40, Tryd.ntmps40
    go_wp2
    go_ret
    exact ⟨by simp, rfl⟩
  · have h0i : ¬ (0 : Int) < (r : Nat) := by omega
    rw [if_neg h0]
    go_enter Tryd.func40, Tryd.ntmps40
    go_wp2
    go_ret
    exact ⟨rfl, rfl⟩
end Go.Proofs.YtocmfdahnekboaaDoor

/- journal: headOf, Heavy. -/
namespace Go.Proofs.YtocmfdahnekboaaDoor
open Go.RowKit
set_option linter.unusedVariables false
attribute [local go_sem] Oper.semAt_some

/-- A head's body. -/
def headB (age n : Nat) : List Nat := uv age ++ uv (piecesN n)
theorem piecesN_le (n : Nat) : piecesN n ≤ n := by unfold piecesN; split <;> omega
theorem headB_len (age n : Nat) (ha : age < 18446744073709551616) (hn : n ≤ 1099511627776) : (headB age n).length ≤ 20 := by
  unfold headB
  rw [List.length_append]
  have h1 := uv_len10 ha
  have h2 := uv_len10 (n := piecesN n) (by have := piecesN_le n; omega)
  omega
set_option maxRecDepth 100000 in
set_option maxHeartbeats 4000000 in
theorem headOf_any (age n : Nat) (ha : age < 18446744073709551616) (hn : n ≤ 1099511627776) (w : World) :
    Calls Tryd.prog 39 #[.int .u64 (age : Nat), .int .i64 (n : Nat)] w fun e w' => ∃ r, e = .returned r ∧ w'.ownsRow w.heap.size 5 1 r (headB age n).length ((headB age n).map encY) ∧ Below w.heap.size w w' := by
  have hz : ∀ (w : World), (zeroValue 95).run Tryd.prog w = .ok (.agg #[.slice none 0 0]) w := fun w => by kernel_rfl
  have hb1 : Below w.heap.size w (w.alloc (.cells #[.slice none 0 0] 95)) := (Below.refl _ _).alloc (Nat.le_refl _) _
  have HU := Lib.hid (uint_any age ha w.heap.size _ [] (by simp) _ (OutB.new w))
  have HB1 := Lib.hid hb1
  have hpn := piecesN_le n
  obtain ⟨p, hp⟩ : ∃ p, piecesN n = p := ⟨_, rfl⟩
  have HP := Lib.hid (fun w => pieces_any n hn w)
  have HHB : Hid (headB age n = uv age ++ uv p) := Lib.hid (by unfold headB; rw [hp])
  rw [hp] at HP hpn
  have hpu : p < 18446744073709551616 := by omega
  clear hp hb1
  go_enter Tryd.func39, Tryd.ntmps39
  go_wp2_with fail
  refine HU.out.mono ?_
  rintro e w2 ⟨rfl, v2, h2⟩
  have H2 := Lib.hid h2
  clear h2 HU
  go_wp2_with fail
  refine (HP.out w2).mono ?_
  rintro e w' ⟨rfl, rfl⟩
  have HU2 := Lib.hid (uint_any p hpu w.heap.size v2 ([] ++ uv age) (by have := uv_len10 ha; simp; omega) w2 H2.out.out)
  go_wp2_with fail
  refine HU2.out.mono ?_
  rintro e w3 ⟨rfl, v3, h3⟩
  have h23 := H2.out.trans h3
  have HD := Lib.hid (done_any w.heap.size v3 ([] ++ uv age ++ uv p) (by have := uv_len10 ha; have := uv_len10 hpu; simp; omega) w3 h3.out)
  rw [List.nil_append, ← HHB.out] at HD
  have HB3 : Hid (Below w.heap.size w w3) := Lib.hid (HB1.out.trans (h23.but.below (n := w.heap.size) (by simp [Value.ownBlock]) HB1.out.size))
  clear h3 h23 HU2 H2 HP
  go_wp2_with fail
  refine HD.out.mono ?_
  rintro e w4 ⟨r, rfl, hr, hb4⟩
  have HR := Lib.hid (row_base hr HB3.out.size)
  have HB4 := Lib.hid (HB3.out.trans (hb4.mono HB3.out.size))
  clear hr hb4
  go_wp2
  go_ret
  exact ⟨r, rfl, HR.out, HB4.out⟩

/-- How many bytes a region begins with. -/
def heavyN (age n : Nat) : Nat := (headB age n).length + 7 + n + piecesN n * 7 + 7
set_option maxRecDepth 100000 in
set_option maxHeartbeats 4000000 in
theorem heavy_any (age n : Nat) (ha : age < 18446744073709551616) (hn : n ≤ 1099511627776) (w : World) :
    Calls Tryd.prog 20 #[.int .u64 (age : Nat), .int .i64 (n : Nat)] w fun e w' => e = .returned (.int .i64 (heavyN age n : Nat)) ∧ Below w.heap.size w w' := by
  have hmax : max ((n : Nat) : Int) 0 = (n : Int) := by omega
  have HH := Lib.hid (headOf_any age n ha hn w)
  have hpn := piecesN_le n
  have hhl := headB_len age n ha hn
  obtain ⟨H, hH⟩ : ∃ H, (headB age n).length = H := ⟨_, rfl⟩
  obtain ⟨p, hp⟩ : ∃ p, piecesN n = p := ⟨_, rfl⟩
  have HV : Hid (heavyN age n = H + 7 + n + p * 7 + 7) := Lib.hid (by unfold heavyN; rw [hH, hp])
  have HP := Lib.hid (fun w => pieces_any n hn w)
  have HL := Lib.hid hH
  rw [hp] at HP hpn
  rw [hH] at hhl
  have HW7 : Hid (∀ w : World, Calls Tryd.prog 29 #[.int .i64 0] w fun e w' => e = .returned (.int .i64 7) ∧ w = w') := Lib.hid (fun w => weight_nat 0 7 (by omega) rfl w)
  obtain ⟨HS, hHS⟩ : ∃ S, H + 7 = S := ⟨_, rfl⟩
  have HWH := Lib.hid (fun w => weight_nat H HS (by omega) hHS w)
  have HHS := Lib.hid hHS
  have hHSl : HS ≤ 40 := by omega
  clear hH hp hHS
  go_enter Tryd.func20, Tryd.ntmps20
  go_wp2_with fail
  refine HH.out.mono ?_
  rintro e w2 ⟨r, rfl, hr, hb2⟩
  rw [HL.out] at hr
  obtain ⟨rp, rc, hrf⟩ : ∃ a c, r = .slice a H c := by
    rcases hr.2 with ⟨e, e0⟩ | ⟨g, cap, cur, e, _⟩
    · exact ⟨_, _, by rw [e, e0]⟩
    · exact ⟨_, _, e⟩
  subst hrf
  have HB2 := Lib.hid hb2
  clear hr hb2
  go_wp2_with fail
  refine (HWH.out w2).mono ?_
  rintro e w' ⟨rfl, rfl⟩
  go_wp2_with fail
  refine (HP.out w2).mono ?_
  rintro e w' ⟨rfl, rfl⟩
  go_wp2_with fail
  refine (HW7.out w2).mono ?_
  rintro e w' ⟨rfl, rfl⟩
  go_wp2_with fail
  refine (HW7.out w2).mono ?_
  rintro e w' ⟨rfl, rfl⟩
  go_wp2
  go_ret
  refine ⟨?_, HB2.out⟩
  rw [HV.out]
  have := HHS.out
  exact congrArg (fun z : Int => Ending.returned (.int .i64 z)) (by omega)
end Go.Proofs.YtocmfdahnekboaaDoor

/- slices.Chunk of bytes, in runs of 4096. -/
namespace Go.Proofs.YtocmfdahnekboaaDoor
open Go.RowKit Go.Shelf
set_option linter.unusedVariables false
attribute [local go_sem] Oper.semAt_some

/-- The runs of 4096 bytes. -/
def chunkAt (l : List Nat) (i : Nat) : List Nat := (l.drop (4096 * i)).take 4096
def chunksL (l : List Nat) : List (List Nat) := (List.range (piecesN l.length)).map (chunkAt l)
theorem pieces_lt (k n : Nat) : k < piecesN n ↔ 4096 * k < n := by unfold piecesN; split <;> omega
theorem chunkAt_len (l : List Nat) (i : Nat) : (chunkAt l i).length = min 4096 (l.length - 4096 * i) := by unfold chunkAt; rw [List.length_take, List.length_drop]
abbrev CX := List Nat × Value
/-- A run: it is read, and lies where the bytes lie. -/
def RyC (a : Option Addr) (x : CX) (W : World) : Prop := Sl encY W.heap.size W x.2 x.1 ∧ ∀ ad m k, x.2 = .slice (some ad) m k → ∃ ad0, a = some ad0 ∧ ad.block = ad0.block
theorem chunk_prefix {l : List Nat} {k : Nat} (hk : k < piecesN l.length) : ((List.range k).map (chunkAt l) ++ [chunkAt l k]) <+: chunksL l := by
  refine ⟨((List.range (piecesN l.length - (k + 1))).map (fun i => chunkAt l (k + 1 + i))), ?_⟩
  unfold chunksL
  rw [show piecesN l.length = (k + 1) + (piecesN l.length - (k + 1)) from by omega, List.range_add, List.map_append, List.range_succ, List.map_append, List.map_map]
  simp [Function.comp_def]

set_option maxHeartbeats 400000 in
theorem chunk_any (a : Option Addr) (n c : Nat) (w : World) :
    Calls Tryd.prog 51 #[.slice a n c, .int .i64 4096] w fun e w' => e = .returned (.func (.func 65) #[] #[.pointer (some ⟨w.heap.size, 0, none⟩), .pointer (some ⟨w.heap.size + 1, 0, none⟩)]) ∧
      w' = (w.alloc (.cells #[.slice a n c] 22)).alloc (.cells #[.int .i64 4096] 3) := by
  go_enter Tryd.func51, Tryd.ntmps51
  go_wp2
  go_ret
  exact ⟨rfl, rfl⟩

set_option maxRecDepth 100000 in
set_option maxHeartbeats 4000000 in
theorem chunk1 (B1 B2 n0 : Nat) (bs : List Nat) (L : List Nat) (hL : L.length ≤ 1048576) (a : Option Addr) (N c : Nat) (w : World) (hn0 : n0 ≤ w.heap.size) (hbs : ∀ k ∈ bs, k < w.heap.size) (hB1 : Kept n0 bs B1) (hB2 : Kept n0 bs B2) (hv : KeptV n0 bs (.slice a N c))
    (hc : w.cell? ⟨B1, 0, none⟩ = some (.slice a N c)) (hc2 : w.cell? ⟨B2, 0, none⟩ = some (.int .i64 4096)) (hS : Sl encY w.heap.size w (.slice a N c) L) :
    SeqR Fence.wide 2 Tryd.prog 65 #[.pointer (some ⟨B1, 0, none⟩), .pointer (some ⟨B2, 0, none⟩)] (fun x : CX => #[x.2]) n0 0 bs (fun ys => ys.map Prod.fst = chunksL L) (fun pre => pre.map Prod.fst <+: chunksL L) (RyC a) w := fun l J Jx W hW hJ hJx _ _ hY h0 => by
  have hlt : ∀ b, Kept n0 bs b → b < w.heap.size := fun b h => by
    rcases h with h | h
    · omega
    · exact hbs _ h
  have hcW := (hW.cell (p := ⟨B1, 0, none⟩) (hlt _ hB1)).trans hc
  have hcW2 := (hW.cell (p := ⟨B2, 0, none⟩) (hlt _ hB2)).trans hc2
  have hSW := (hS.below hW).mono hW.size
  have HS := Lib.hid hSW
  obtain rfl := hSW.len
  have HC := Lib.hid hcW
  have HC2 := Lib.hid hcW2
  have HY := Lib.hid hY
  have hn0W : n0 ≤ W.heap.size := Nat.le_trans hn0 hW.size
  have HKV := Lib.hid hv
  have HKB := Lib.hid hB1
  have HKB2 := Lib.hid hB2
  clear hc hc2 hS hSW hcW hcW2 hY hbs hv hB1 hB2 hlt
  refine callsIn_of_wp Tryd.func65 rfl trivial ?_ rfl
  simp only [Tryd.ntmps65, List.size_toArray, List.length_cons, List.length_nil, Nat.reduceAdd, Nat.reduceSub, Array.replicate_succ, Array.replicate_zero, List.push_toArray, List.append_toArray, List.nil_append, List.cons_append]
  obtain ⟨M, hM⟩ : ∃ M, L.length = M := ⟨_, rfl⟩
  have HM := Lib.hid hM
  rw [hM] at HS HC hL HKV
  clear hM
  gi_wp2
  gi_loopw [4] (fun x wr => ∃ (pre : List CX), x = .int .i64 ((4096 * pre.length : Nat) : Int) ∧ pre.length ≤ piecesN M ∧ pre.map Prod.fst = (List.range pre.length).map (chunkAt L) ∧ J pre wr ∧ Stay n0 bs W wr)
    (fun x _ => M + 4096 - (intOf x).toNat)
  case atStart => exact ⟨[], rfl, Nat.zero_le _, rfl, h0, Stay.refl _ _ _⟩
  case round =>
    obtain ⟨pre, rfl, hp, hpre, hj, hst⟩ := hrel
    have hcr : wr.cell? ⟨B1, 0, none⟩ = some (.slice a M c) := (World.cell?_of_block (hst.at_ HKB.out)).trans HC.out
    have hcr2 : wr.cell? ⟨B2, 0, none⟩ = some (.int .i64 4096) := (World.cell?_of_block (hst.at_ HKB2.out)).trans HC2.out
    have hSr := hst.sl HKV.out HS.out
    obtain ⟨i, hi⟩ : ∃ i, pre.length = i := ⟨_, rfl⟩
    obtain ⟨p, hpi⟩ : ∃ p, 4096 * pre.length = p := ⟨_, rfl⟩
    rw [hpi]
    by_cases hlt : p < M
    · have hlt' : p < L.length := by rw [HM.out]; exact hlt
      obtain ⟨b, off, rfl⟩ : ∃ b off, a = some ⟨b, off, none⟩ := by
        rcases hSr with ⟨e0, _⟩ | ⟨b, off, cap, e, _⟩
        · rw [e0] at hlt'; simp at hlt'
        · cases e; exact ⟨_, _, rfl⟩
      have hcap := hSr.capb
      have hip : i < piecesN L.length := by rw [HM.out]; exact (pieces_lt i M).2 (by omega)
      have hSd := hSr.drop hlt
      obtain ⟨q, hq⟩ : ∃ q, min 4096 (M - p) = q := ⟨_, rfl⟩
      have hq1 : q ≤ M - p := by omega
      have hq2 : 0 < q := by omega
      have hq3 : q ≤ 4096 := by omega
      have hch : (L.drop p).take q = chunkAt L i := by
        unfold chunkAt
        rw [show 4096 * i = p from by omega]
        rcases Nat.le_total 4096 (M - p) with h | h
        · rw [show q = 4096 from by omega]
        · rw [show q = M - p from by omega, List.take_of_length_le (by rw [List.length_drop, HM.out]; omega), List.take_of_length_le (by rw [List.length_drop, HM.out]; omega)]
      have hSq : Sl encY wr.heap.size wr (.slice (some ⟨b, off + p, none⟩) q q) (chunkAt L i) := by
        rcases hSr with ⟨e0, _⟩ | ⟨b', off', cap, e, hb, _, hcell⟩
        · rw [e0] at hlt'; simp at hlt'
        · cases e
          refine .inr ⟨b, off + p, q, ?_, hb, ?_, fun j x hj => ?_⟩
          · rw [chunkAt_len, HM.out, show 4096 * i = p from by omega, hq]
          · rw [chunkAt_len, HM.out, show 4096 * i = p from by omega, hq]; exact Nat.le_refl _
          · rw [Nat.add_assoc]
            refine hcell (p + j) x ?_
            unfold chunkAt at hj
            rw [List.getElem?_take] at hj
            split at hj
            · rw [List.getElem?_drop, show 4096 * i = p from by omega] at hj; exact hj
            · cases hj
      have hmin : min (4096 : Int) (((M - p : Nat)) : Int) = (q : Int) := by omega
      have HPX : Hid (∀ v, (pre ++ [((chunkAt L i, v) : CX)]).map Prod.fst <+: chunksL L) := Lib.hid (fun v => by rw [List.map_append, hpre, hi]; exact chunk_prefix hip)
      have HRND := Lib.hid (fun (k : Nat) => HY.out pre (chunkAt L i, .slice (some ⟨b, off + p, none⟩) q q) (wr.drewN k) (hJ pre wr _ none hj (grown_of_below (Below.drewN_r (Below.refl _ _) k)) (fun r e => by cases e)) (HPX.out _) (by have := hst.1.size; show W.heap.size + 0 ≤ wr.heap.size; omega)
        ⟨hSq.below (Below.drewN_r (Below.refl _ _) k), fun ad m k e => by cases e; exact ⟨_, rfl, rfl⟩⟩)
      have HPN : Hid (∀ v, (pre ++ [((chunkAt L i, v) : CX)]).map Prod.fst = (List.range (pre ++ [((chunkAt L i, v) : CX)]).length).map (chunkAt L)) := Lib.hid (fun v => by rw [List.length_append, hi, List.map_append, hpre, hi, List.length_singleton, List.range_succ, List.map_append]; rfl)
      have HLEN : Hid (∀ v, (pre ++ [((chunkAt L i, v) : CX)]).length = i + 1) := Lib.hid (fun v => by rw [List.length_append, hi]; rfl)
      have hpli : i + 1 ≤ piecesN M := by have := (pieces_lt i M).2 (by omega); omega
      have HST := Lib.hid hst
      have hpi2 : (p : Int) < M := by omega
      have hp0 : (0 : Int) ≤ p := by omega
      have hpc : p ≤ c := by omega
      have hpq : p + q ≤ c := by omega
      have HPI : Hid (4096 * i = p) := Lib.hid (by omega)
      have hzr : n0 ≤ wr.heap.size := Nat.le_trans hn0W hst.1.size
      clear hpre hst hSr hSd hSq hq hch hip hi hpi hj hlt'
      gi_wp2_with fail
      gi_quiet (fail)
      rename_i nq
      obtain ⟨fn, tmps, assign, body, hy, hR⟩ := HRND.out nq
      have HR := Lib.hid hR
      clear hR HRND
      gi_wp2
      refine HR.out.mono ?_
      rintro e W4 ⟨hK4, ⟨rfl, hj4, hb4, _, hk4⟩ | ⟨rfl, hjx4⟩⟩
      · have hst4 : Stay n0 bs W W4 := (HST.out.trans ⟨Below.drewN_r (Below.refl _ _) nq, fun _ _ => rfl⟩).trans ⟨hb4, hk4⟩
        have HST4 := Lib.hid hst4
        have HJ4 := Lib.hid hj4
        have hcr4 : W4.cell? ⟨B2, 0, none⟩ = some (.int .i64 4096) := (World.cell?_of_block (hst4.at_ HKB2.out)).trans HC2.out
        clear hst4 hk4 hb4 hK4 hj4
        gi_wp2
        go_roundw
        case rel => exact ⟨pre ++ [(chunkAt L i, .slice (some ⟨b, off + p, none⟩) q q)], by rw [HLEN.out, ← HPI.out]; go_num, by rw [HLEN.out]; exact hpli, HPN.out _, HJ4.out, HST4.out⟩
        case measure => simp [intOf]; omega
      · gi_wp2
        refine bodyPost_ret (results_none rfl _ _ _) rfl ?_
        exact ⟨⟨_, rfl⟩, .inr ⟨_, HPX.out _, hjx4⟩⟩
    · have hpc : piecesN M ≤ i := by
        apply Decidable.byContradiction
        intro h
        have := (pieces_lt i M).1 (by omega)
        omega
      have hpei : pre.length = piecesN M := by omega
      have HPR : Hid (pre.map Prod.fst = chunksL L) := Lib.hid (by rw [hpre, hpei]; unfold chunksL; rw [HM.out])
      have hlti : ¬ (p : Int) < M := by omega
      clear hpre hst hSr hi hpei
      gi_wp2
      go_end0
      exact ⟨⟨_, rfl⟩, .inl ⟨pre, HPR.out, hj⟩⟩
end Go.Proofs.YtocmfdahnekboaaDoor
