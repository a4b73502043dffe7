/- journal.Append. -/
import Derived.Test.YtocmfdahnekboaaDoorJrnG
import Derived.Test.YtocmfdahnekboaaDoorJrnN
import Derived.StillTailTactics
import Derived.BigQuiet
import Derived.Deep.QuietTactic
import Derived.Test.YtocmfdahnekboaaDoorRegionRel
namespace Go.Proofs.YtocmfdahnekboaaDoor
open Go.RowKit Go.Shelf
set_option linter.unusedVariables false
attribute [local go_sem] Oper.semAt_some

set_option maxRecDepth 100000 in
set_option maxHeartbeats 4000000 in
theorem append_long {jb : Nat} (pa : Option Addr) (c : Nat) (rec : List Nat) (hl : Bytes rec) (h4 : 4096 < rec.length) (w : World) (hS : Sl encY w.heap.size w (.slice pa rec.length c) rec) :
    Calls Tryd.prog 13 #[.pointer (some ⟨jb, 0, none⟩), .slice pa rec.length c] w fun e w' => e = .returned (.int .i64 2) ∧ Below w.heap.size w w' := by
  have HW := Lib.hid (write_new 4 pa rec.length c rec hl w hS)
  have e2 : writeE 4 rec = 2 := by unfold writeE; rw [if_neg (by decide), if_pos h4]
  rw [e2] at HW
  obtain ⟨q, hq⟩ : ∃ q, rec.length = q := ⟨_, rfl⟩
  rw [hq] at HW ⊢
  clear hq hS hl h4 e2
  go_enter Tryd.func13, Tryd.ntmps13
  go_wp2_with fail
  refine HW.out.mono ?_
  rintro e w1 ⟨v, rfl, _, hb⟩
  go_wp2
  go_ret
  exact ⟨rfl, hb⟩

/-- What Append comes to, of a record that is not too long. -/
def AppTo (own : List Nat) (w : World) (jb b : Nat) (D : DevS) (r0 : Int) (a0 c0 f0 : Nat) (rec : List Nat) (e : Ending) (w' : World) : Prop :=
  e = .returned (.int .i64 (appS D r0 (frameL 4 rec)).2) ∧ ∃ own' x y, Dev own' w' b (appS D r0 (frameL 4 rec)).1 x y ∧ But (jb :: own) w w' ∧ (∀ k ∈ own', k ∈ own ∨ w.heap.size ≤ k) ∧
    ((appS D r0 (frameL 4 rec)).2 = 0 → JrnAt w' jb b r0 a0 (c0 + 1) (f0 + (rec.length + 7))) ∧ ((appS D r0 (frameL 4 rec)).2 ≠ 0 → JrnAt w' jb b r0 a0 c0 f0)

set_option maxRecDepth 100000 in
set_option maxHeartbeats 8000000 in
theorem append_go {own : List Nat} {b jb : Nat} {D : DevS} {v0 v1 : Value} {r0 : Int} {a0 c0 f0 : Nat} (pa : Option Addr) (c : Nat) (rec : List Nat) (hl : Bytes rec) (h4 : rec.length ≤ 4096) (w : World) (hD : Dev own w b D v0 v1) (hJ : JrnAt w jb b r0 a0 c0 f0) (hjo : jb ∉ own)
    (hS : Sl encY w.heap.size w (.slice pa rec.length c) rec) (hf : (D.row r0).length = f0) (hc : c0 ≤ 1048576) :
    Calls Tryd.prog 13 #[.pointer (some ⟨jb, 0, none⟩), .slice pa rec.length c] w (AppTo own w jb b D r0 a0 c0 f0 rec) := by
  have HW := Lib.hid (write_new 4 pa rec.length c rec hl w hS)
  have e2 : writeE 4 rec = 0 := by unfold writeE; rw [if_neg (by decide), if_neg (by omega)]
  rw [e2, show writeL 4 rec = frameL 4 rec from by unfold writeL; rw [if_pos e2]; rfl] at HW
  have hflen : (frameL 4 rec).length = rec.length + 7 := frame_len 4 rec
  have hfb : ∀ x ∈ frameL 4 rec, x < 256 := frame_bytes (by decide) h4 hl.2
  have hcap := hD.ok.cap
  have hrl := (hD.ok.row r0).1
  obtain ⟨AP, hAP⟩ : ∃ AP, appS D r0 (frameL 4 rec) = AP := ⟨_, rfl⟩
  have HTO : Hid (∀ e w', (e = .returned (.int .i64 AP.2) ∧ ∃ own' x y, Dev own' w' b AP.1 x y ∧ But (jb :: own) w w' ∧ (∀ k ∈ own', k ∈ own ∨ w.heap.size ≤ k) ∧ (AP.2 = 0 → JrnAt w' jb b r0 a0 (c0 + 1) (f0 + (rec.length + 7))) ∧ (AP.2 ≠ 0 → JrnAt w' jb b r0 a0 c0 f0)) → AppTo own w jb b D r0 a0 c0 f0 rec e w') := Lib.hid (fun e w' h => by unfold AppTo; rw [hAP]; exact h)
  obtain ⟨FL, hFL⟩ : ∃ FL, frameL 4 rec = FL := ⟨_, rfl⟩
  rw [hFL] at HW hflen hfb hAP
  rw [hf] at hrl
  have HF := Lib.hid hf
  have HFL := Lib.hid hflen
  have HFB := Lib.hid hfb
  have HAPE := Lib.hid hAP
  have HD := Lib.hid hD
  have HJ := Lib.hid hJ
  have HJO := Lib.hid hjo
  have hjl := hJ.lt
  obtain ⟨q, hq⟩ : ∃ q, rec.length = q := ⟨_, rfl⟩
  rw [hq] at HW HTO HFL h4 ⊢
  rw [HFL.out] at HW
  clear hq hS hl e2 hflen hfb hFL hAP hf hD hJ hjo
  go_enter Tryd.func13, Tryd.ntmps13
  go_wp2_with fail
  refine HW.out.mono ?_
  rintro e w1 ⟨v, rfl, hown, hb1⟩
  obtain ⟨fa, fc, hv⟩ := own_form hown
  subst hv
  have hS1 : Sl encY w1.heap.size w1 (.slice fa (q + 7) fc) FL := Sl.of_owns (by rw [HFL.out]; exact hown)
  have ho1 : Off own (.slice fa (q + 7) fc) := off_newJ (W0 := w) hown own (fun g hg => HD.out.lt g hg)
  have hJ1 : JrnAt w1 jb b r0 a0 c0 f0 := (hb1.block jb hjl).trans HJ.out
  have HJ1 := Lib.hid hJ1
  have HD1 := Lib.hid (HD.out.below hb1)
  have HB1 := Lib.hid hb1
  have HS1 := Lib.hid hS1
  have HO1 := Lib.hid ho1
  have hjl1 := HJ1.out.lt
  have HL : Hid (∀ n, Calls Tryd.prog 32 #[.pointer (some ⟨b, 0, none⟩), .int .i64 r0] (w1.drewN n) fun e w' => e = .returned (.int .i64 (f0 : Nat)) ∧ ∃ q', w' = (w1.drewN n).drewN q') := Lib.hid (fun n => (len_any r0 (w1.drewN n) (HD1.out.below (Below.drewN_r (Below.refl _ _) n))).mono (by rintro e w' ⟨rfl, rfl⟩; exact ⟨by rw [HF.out], 0, rfl⟩))
  have j0 := cell_of_row w1 _ 0 _ _ _ HJ1.out
  have j1 := cell_of_row w1 _ 1 _ _ _ HJ1.out
  have j4 := cell_of_row w1 _ 4 _ _ _ HJ1.out
  clear hown hb1 hS1 ho1 hJ1 HW
  go_wp2_with fail
  go_quiet ((go_at_call 32; exact Calls.quiet_of (HL.out _)))
  obtain ⟨U, hU⟩ : ∃ U, w1.drewN nq = U := ⟨_, rfl⟩
  have hUb : Below w1.heap.size w1 U := by rw [← hU]; exact Below.drewN_r (Below.refl _ _) nq
  rw [hU]
  have hUj : JrnAt U jb b r0 a0 c0 f0 := (hUb.block jb hjl1).trans HJ1.out
  have k0 := cell_of_row U _ 0 _ _ _ hUj
  have k1 := cell_of_row U _ 1 _ _ _ hUj
  have HUB := Lib.hid hUb
  have HUJ := Lib.hid hUj
  have HUU := Lib.hid hU
  clear hU hUb hUj j0 j1 j4 HL
  go_wp2_with fail
  go_still_tail 9, (by kernel_rfl)
  change wpList _ _ _ _ _ U.drew
  obtain ⟨U2, hU2⟩ : ∃ U2, U.drew = U2 := ⟨_, rfl⟩
  have hb3 : Below U.heap.size U U2 := by rw [← hU2]; exact (Below.refl _ _).drew
  rw [hU2]
  have hB12 : Below w1.heap.size w1 U2 := HUB.out.trans (hb3.mono HUB.out.size)
  have hd2 : Dev own U2 b D v0 v1 := HD1.out.below hB12
  have hS2 : Sl encY U2.heap.size U2 (.slice fa (q + 7) fc) FL := (HS1.out.below hB12).mono hB12.size
  have HA := Lib.hid (app_any r0 fa (q + 7) fc FL HFB.out U2 hd2 hS2 HO1.out)
  rw [HAPE.out] at HA
  have HJ2 : Hid (JrnAt U2 jb b r0 a0 c0 f0) := Lib.hid ((hb3.block jb HUJ.out.lt).trans HUJ.out)
  have HB2 : Hid (Below w.heap.size w U2) := Lib.hid (HB1.out.trans (hB12.mono HB1.out.size))
  clear hU2 hb3 hB12 hd2 hS2 k0 k1 HAPE HUB HUJ HUU
  obtain ⟨D2, er⟩ := AP
  dsimp only at HA HTO
  go_wp2_with fail
  refine HA.out.mono ?_
  rintro e w3 ⟨rfl, own2, x2, y2, d2, b2, s2⟩
  have hbt : But (jb :: own) w w3 := ((But.of_below HB2.out).more (own' := jb :: own) (fun g hg => .inl hg)).trans' (b2.more (own' := jb :: own) (fun g hg => .inl (List.mem_cons_of_mem _ hg)))
  have hj3 : JrnAt w3 jb b r0 a0 c0 f0 := HJ2.out.but b2 HJO.out
  have hs3 : ∀ k ∈ own2, k ∈ own ∨ w.heap.size ≤ k := fun k hk => (s2 k hk).imp id (fun h => Nat.le_trans HB2.out.size h)
  have hjn : jb ∉ own2 := fun hm => by
    rcases s2 jb hm with h | h
    · exact HJO.out h
    · have := HB2.out.size; omega
  by_cases her : er = 0
  · subst her
    have j2 := cell_of_row w3 _ 3 _ _ _ hj3
    have j3 := cell_of_row w3 _ 4 _ _ _ hj3
    have q2 := frozen_of_row w3 jb 3 _ _ hj3
    have q3 := frozen_of_row w3 jb 4 _ _ hj3
    have hf1 : f0 ≤ 1048576 := by omega
    have hput : JrnAt ((w3.setCell ⟨jb, 3, none⟩ (.int .i64 ((c0 : Int) + 1))).setCell ⟨jb, 4, none⟩ (.int .i64 ((f0 : Int) + ((q : Int) + 7)))) jb b r0 a0 (c0 + 1) (f0 + (q + 7)) := heap_setCell_same _ jb 4 _ _ _ (heap_setCell_same w3 jb 3 _ _ _ hj3)
    have hpb : But [jb] w3 ((w3.setCell ⟨jb, 3, none⟩ (.int .i64 ((c0 : Int) + 1))).setCell ⟨jb, 4, none⟩ (.int .i64 ((f0 : Int) + ((q : Int) + 7)))) := ((But.refl _ _).set (by simp) _).set (by simp) _
    have hfin := HTO.out (.returned (.int .i64 0)) _ ⟨rfl, own2, x2, y2, d2.but hpb (fun g hg hm => by simp at hm; subst hm; exact hjn hg), hbt.trans' (hpb.more (own' := jb :: own) (fun g hg => .inl (by simp at hg; simp [hg]))), hs3, fun _ => hput, fun h => absurd rfl h⟩
    have HFIN := Lib.hid hfin
    clear d2 b2 s2 hbt hj3 hs3 hjn hput hpb hfin HTO HA
    go_wp2
    go_ret
    exact HFIN.out
  · have heri : (er != 0) = true := by rw [bne_iff_ne]; exact her
    have hfin := HTO.out (.returned (.int .i64 er)) _ ⟨rfl, own2, x2, y2, d2, hbt, hs3, fun h => absurd h her, fun _ => hj3⟩
    have HFIN := Lib.hid hfin
    clear d2 b2 s2 hbt hj3 hs3 hjn hfin HTO HA
    go_wp2
    go_ret
    exact HFIN.out
end Go.Proofs.YtocmfdahnekboaaDoor

/- journal.Compact. -/
namespace Go.Proofs.YtocmfdahnekboaaDoor
open Go.RowKit Go.Shelf
set_option linter.unusedVariables false
attribute [local go_sem] Oper.semAt_some

theorem off_own {own own' : List Nat} {W : World} {sv : Value} {l : List Nat} (h : Off own sv) (hS : Sl encY W.heap.size W sv l) (hs : ∀ k ∈ own', k ∈ own ∨ W.heap.size ≤ k) : Off own' sv := fun ad m c e h0 hk => by
  rcases hs _ hk with h1 | h1
  · exact h ad m c e h0 h1
  · rcases hS with ⟨rfl, a', c', e', _⟩ | ⟨b, off, cap, e', hlt, _⟩
    · rw [e] at e'; cases e'; omega
    · rw [e] at e'; cases e'; simp at h1; omega
/-- What Compact does to a device. -/
def compS (D : DevS) (r0 : Int) (a0 : Nat) (snap : List Nat) : DevS × Int :=
  if a0 = 18446744073709551615 then (D, 3) else if D.cap < heavyN (a0 + 1) snap.length then (D, 6) else if (truncS D (1 - r0) 0).2 ≠ 0 then truncS D (1 - r0) 0 else appsS (truncS D (1 - r0) 0).1 (1 - r0) (beginFs (a0 + 1) snap)
/-- What Compact comes to. -/
def CompTo (own : List Nat) (w : World) (jb b : Nat) (D : DevS) (r0 : Int) (a0 c0 f0 : Nat) (snap : List Nat) (e : Ending) (w' : World) : Prop :=
  e = .returned (.int .i64 (compS D r0 a0 snap).2) ∧ ∃ own' x y, Dev own' w' b (compS D r0 a0 snap).1 x y ∧ But (jb :: own) w w' ∧ (∀ k ∈ own', k ∈ own ∨ w.heap.size ≤ k) ∧
    ((compS D r0 a0 snap).2 = 0 → JrnAt w' jb b (1 - r0) (a0 + 1) 0 (heavyN (a0 + 1) snap.length)) ∧ ((compS D r0 a0 snap).2 ≠ 0 → JrnAt w' jb b r0 a0 c0 f0)

set_option maxRecDepth 100000 in
set_option maxHeartbeats 4000000 in
theorem compact_many {own : List Nat} {b jb : Nat} {D : DevS} {v0 v1 : Value} {r0 : Int} {a0 c0 f0 : Nat} (pa : Option Addr) (c : Nat) (snap : List Nat) (w : World) (hD : Dev own w b D v0 v1) (hJ : JrnAt w jb b r0 a0 c0 f0) (ha : a0 = 18446744073709551615) :
    Calls Tryd.prog 17 #[.pointer (some ⟨jb, 0, none⟩), .slice pa snap.length c] w (CompTo own w jb b D r0 a0 c0 f0 snap) := by
  have j2 := cell_of_row w _ 2 _ _ _ hJ
  have HFIN : Hid (CompTo own w jb b D r0 a0 c0 f0 snap (.returned (.int .i64 3)) w) := Lib.hid (by
    have e0 : compS D r0 a0 snap = (D, 3) := if_pos ha
    unfold CompTo
    rw [e0]
    exact ⟨rfl, own, v0, v1, hD, But.refl _ _, fun _ hk => .inl hk, (fun h => by cases h), fun _ => hJ⟩)
  subst ha
  obtain ⟨n, hn⟩ : ∃ n, snap.length = n := ⟨_, rfl⟩
  rw [hn]
  clear hD hJ hn
  go_enter Tryd.func17, Tryd.ntmps17
  go_wp2
  go_ret
  exact HFIN.out

set_option maxRecDepth 100000 in
set_option maxHeartbeats 8000000 in
theorem compact_go {own : List Nat} {b jb : Nat} {D : DevS} {v0 v1 : Value} {r0 : Int} {a0 c0 f0 : Nat} (pa : Option Addr) (c : Nat) (snap : List Nat) (hsb : Bytes snap) (w : World) (hD : Dev own w b D v0 v1) (hJ : JrnAt w jb b r0 a0 c0 f0) (hjo : jb ∉ own) (hr0 : 0 ≤ r0 ∧ r0 ≤ 1)
    (hS : Sl encY w.heap.size w (.slice pa snap.length c) snap) (ho : Off own (.slice pa snap.length c)) (ha : a0 < 18446744073709551615) :
    Calls Tryd.prog 17 #[.pointer (some ⟨jb, 0, none⟩), .slice pa snap.length c] w (CompTo own w jb b D r0 a0 c0 f0 snap) := by
  have j2 := cell_of_row w _ 2 _ _ _ hJ
  have hsl := hsb.1
  have HD := Lib.hid hD
  have HJ := Lib.hid hJ
  have HJO := Lib.hid hjo
  have HS := Lib.hid hS
  have HO := Lib.hid ho
  have HSB := Lib.hid hsb
  have hjl := hJ.lt
  have hcap := hD.ok.cap
  have hea : ((a0 : Int) == 18446744073709551615) = false := beq_eq_false_iff_ne.2 (by omega)
  obtain ⟨n, hn⟩ : ∃ n, snap.length = n := ⟨_, rfl⟩
  have HN := Lib.hid hn
  rw [hn] at HS HO hsl ⊢
  obtain ⟨A1, hA1⟩ : ∃ A1, a0 + 1 = A1 := ⟨_, rfl⟩
  have hA1l : A1 < 18446744073709551616 := by omega
  have hA1i : (a0 : Int) + 1 = (A1 : Nat) := by omega
  have HH := Lib.hid (fun w => heavy_any A1 n hA1l (by omega) w)
  obtain ⟨H, hH⟩ : ∃ H, heavyN A1 n = H := ⟨_, rfl⟩
  rw [hH] at HH
  obtain ⟨C, hC⟩ : ∃ C, D.cap = C := ⟨_, rfl⟩
  rw [hC] at hcap
  obtain ⟨O, hO⟩ : ∃ O, (1 : Int) - r0 = O := ⟨_, rfl⟩
  obtain ⟨bf, hbf⟩ : ∃ bf, decide (C < H) = bf := ⟨_, rfl⟩
  have HCS : Hid (compS D r0 a0 snap = if C < H then (D, 6) else if (truncS D O 0).2 ≠ 0 then truncS D O 0 else appsS (truncS D O 0).1 O (beginFs A1 snap)) := Lib.hid (by
    unfold compS
    rw [if_neg (by omega), hC, hA1, hn, hH, hO])
  have HTO : Hid (∀ e w' (R : DevS × Int), compS D r0 a0 snap = R → (e = .returned (.int .i64 R.2) ∧ ∃ own' x y, Dev own' w' b R.1 x y ∧ But (jb :: own) w w' ∧ (∀ k ∈ own', k ∈ own ∨ w.heap.size ≤ k) ∧ (R.2 = 0 → JrnAt w' jb b O A1 0 H) ∧ (R.2 ≠ 0 → JrnAt w' jb b r0 a0 c0 f0)) → CompTo own w jb b D r0 a0 c0 f0 snap e w') := Lib.hid (fun e w' R hR h => by
    unfold CompTo
    rw [hR, hO, hA1, hn, hH]
    exact h)
  have HC := Lib.hid hC
  have HHV : Hid (heavyN A1 n = H) := Lib.hid hH
  have HHL : Hid (H ≤ C → n ≤ 1048576) := Lib.hid (fun h => by omega)
  clear hD hJ hjo hS ho hsb hn hA1 hH hC
  go_enter Tryd.func17, Tryd.ntmps17
  go_wp2_with fail
  refine region_rel (l := _) (by kernel_rfl) (by decide +kernel) (fun v => { tmps := #[.pointer (some ⟨jb, 0, none⟩), .slice pa n c, undef, undef, .int .i64 0, undef, undef, .bool false, .pointer (some ⟨jb, 0, none⟩), .pointer (some ⟨jb, 0, none⟩), .pointer (some ⟨jb, 2, none⟩), .pointer (some ⟨jb, 2, none⟩), .int .u64 (a0 : Nat), .bool false, v 15, v 0, v 1, v 2, v 3, v 4, v 5, v 6, v 7, v 8, v 9, v 10, v 11, v 12, v 13, v 14, undef, undef, undef, undef, undef, undef, undef, undef, undef, undef, undef, undef, undef, undef, undef, undef, undef, undef, undef, undef, undef, undef, undef, undef], defers := [] }) (fun W => Below w.heap.size w W) (fun i u W => match i with
    | 0 => u = .pointer (some ⟨jb, 0, none⟩)
    | 1 => u = .pointer (some ⟨jb, 0, none⟩)
    | 2 => u = .pointer (some ⟨jb, 2, none⟩)
    | 3 => u = .pointer (some ⟨jb, 2, none⟩)
    | 4 => u = .int .u64 (a0 : Nat)
    | 5 => u = .int .u64 (A1 : Nat)
    | 6 => u = .slice pa n c
    | 7 => u = .int .i64 (n : Nat)
    | 8 => u = .int .i64 (H : Nat)
    | 9 => u = .pointer (some ⟨jb, 0, none⟩)
    | 10 => u = .pointer (some ⟨jb, 0, none⟩)
    | 11 => u = .pointer (some ⟨jb, 0, none⟩)
    | 12 => u = .pointer (some ⟨b, 0, none⟩)
    | 13 => u = .int .i64 (C : Nat)
    | 14 => u = .bool bf
    | 15 => u = .bool bf
    | _ => True) (fun A B => Below A.heap.size A B) ?hC ?hV (fun _ => undef) ?h0 ?hop ?hend
  case hC => exact fun A B h h2 => h.trans (h2.mono h.size)
  case h0 => exact (Below.refl _ _).drew
  case hV =>
    intro i u A B h hx
    match i, h with
    | 0, h => exact h
    | 1, h => exact h
    | 2, h => exact h
    | 3, h => exact h
    | 4, h => exact h
    | 5, h => exact h
    | 6, h => exact h
    | 7, h => exact h
    | 8, h => exact h
    | 9, h => exact h
    | 10, h => exact h
    | 11, h => exact h
    | 12, h => exact h
    | 13, h => exact h
    | 14, h => exact h
    | 15, h => exact h
    | n + 16, h => trivial
  case hop =>
    simp only [AllDo]
    refine ⟨?o0, ?o1, ?o2, ?o3, ?o4, ?o5, ?o6, ?o7, ?o8, ?o9, ?o10, ?o11, ?o12, ?o13, ?o14, ?o15, trivial⟩
    all_goals intro v W hc hd Q hQ
    all_goals simp [Region.binds] at hd
    all_goals rw [if_pos (show Region.wanted _ _ = true from rfl)]
    case o4 =>
      have hJW : JrnAt W jb b r0 a0 c0 f0 := (hc.block jb hjl).trans HJ.out
      have k0 := cell_of_row W _ 2 _ _ _ hJW
      clear hJW
      go_wp2
      exact ⟨_, rfl, Below.refl _ _, rfl⟩
    case o8 =>
      go_wp2_with fail
      refine (HH.out W).mono ?_
      rintro e W' ⟨rfl, hb'⟩
      go_wp2
      refine ⟨.int .i64 (H : Nat), ?_, hb', rfl⟩
      simp [updV, hd]
    case o12 =>
      have hJW : JrnAt W jb b r0 a0 c0 f0 := (hc.block jb hjl).trans HJ.out
      have k0 := cell_of_row W _ 0 _ _ _ hJW
      clear hJW
      go_wp2
      exact ⟨_, rfl, Below.refl _ _, rfl⟩
    case o13 =>
      have HCP := Lib.hid (capacity_any W (HD.out.below hc).blk)
      rw [HC.out] at HCP
      go_wp2_with fail
      refine HCP.out.mono ?_
      rintro e W' ⟨rfl, rfl⟩
      go_wp2
      refine ⟨.int .i64 (C : Nat), ?_, Below.refl _ _, rfl⟩
      simp [updV, hd]
    case o14 =>
      go_wp2
      exact ⟨_, rfl, Below.refl _ _, rfl⟩
    all_goals go_wp2
    all_goals exact ⟨_, rfl, Below.refl _ _, rfl⟩
  case hend =>
    intro v W hc hv
    have h15 : v 15 = .bool bf := hv 15 (by decide)
    have HB1 := Lib.hid hc
    have hJ1 : JrnAt W jb b r0 a0 c0 f0 := (hc.block jb hjl).trans HJ.out
    have hD1 := HD.out.below hc
    have HT := Lib.hid (trunc_any O 0 W hD1)
    have k0 := cell_of_row W _ 0 _ _ _ hJ1
    have k1 := cell_of_row W _ 1 _ _ _ hJ1
    have HJ1 := Lib.hid hJ1
    have HD1 := Lib.hid hD1
    have hjl1 := hJ1.lt
    clear hc hv hJ1 hD1 HH
    by_cases hfull : C < H
    · have hb : bf = true := by rw [← hbf]; exact decide_eq_true hfull
      subst hb
      have HFIN := Lib.hid (HTO.out (.returned (.int .i64 6)) W (D, 6) (by rw [HCS.out, if_pos hfull]) ⟨rfl, own, v0, v1, HD1.out, (But.of_below HB1.out).more (own' := jb :: own) (fun g hg => .inl hg), fun _ hk => .inl hk, (fun h => by cases h), fun _ => HJ1.out⟩)
      clear hbf
      go_wp2_with fail
      rw [h15]
      go_wp2
      go_ret
      exact HFIN.out
    · have hb : bf = false := by rw [← hbf]; exact decide_eq_false hfull
      subst hb
      clear hbf
      obtain ⟨TR, hTR⟩ : ∃ TR, truncS D O 0 = TR := ⟨_, rfl⟩
      have HCS2 : Hid (compS D r0 a0 snap = if TR.2 ≠ 0 then TR else appsS TR.1 O (beginFs A1 snap)) := Lib.hid (by rw [HCS.out, if_neg hfull, hTR])
      rw [hTR] at HT
      clear hTR HCS
      obtain ⟨D2, er⟩ := TR
      dsimp only at HT HCS2
      go_wp2_with fail
      rw [h15]
      go_wp2_with fail
      refine HT.out.mono ?_
      rintro e w3 ⟨rfl, own2, x2, y2, d2, b2, s2⟩
      have hbt : But (jb :: own) w w3 := ((But.of_below HB1.out).more (own' := jb :: own) (fun g hg => .inl hg)).trans' (b2.more (own' := jb :: own) (fun g hg => .inl (List.mem_cons_of_mem _ hg)))
      have hj3 : JrnAt w3 jb b r0 a0 c0 f0 := HJ1.out.but b2 HJO.out
      have hs3 : ∀ k ∈ own2, k ∈ own ∨ w.heap.size ≤ k := fun k hk => (s2 k hk).imp id (fun h => Nat.le_trans HB1.out.size h)
      have hjn : jb ∉ own2 := fun hm => by
        rcases s2 jb hm with h | h
        · exact HJO.out h
        · omega
      by_cases her : er = 0
      · subst her
        have hSW : Sl encY W.heap.size W (.slice pa n c) snap := (HS.out.below HB1.out).mono HB1.out.size
        have hS3 : Sl encY w3.heap.size w3 (.slice pa n c) snap := hSW.but b2 HO.out
        have ho3 : Off own2 (.slice pa n c) := off_own HO.out hSW s2
        have HBG := Lib.hid (begin_any jb O A1 hA1l pa c snap HSB.out HSB.out.1 r0 a0 c0 f0 w3 d2 hj3 hjn (by rw [HN.out]; exact hS3) (by rw [HN.out]; exact ho3))
        rw [HN.out] at HBG
        have j0 := cell_of_row w3 _ 2 _ _ _ hj3
        have HBT := Lib.hid hbt
        have HS3 := Lib.hid hs3
        have hz3 := hbt.size
        clear d2 b2 s2 hbt hj3 hs3 hjn hSW hS3 ho3 HT k0 k1
        go_wp2_with fail
        refine HBG.out.mono ?_
        intro e w4 hB
        have HFIN : Hid (CompTo own w jb b D r0 a0 c0 f0 snap e w4) := Lib.hid (by
          obtain ⟨he, own3, x, y, d3, b3, s3, j1, j2⟩ := hB
          refine HTO.out e w4 (appsS D2 O (beginFs A1 snap)) (by rw [HCS2.out, if_neg (fun h => h rfl)]) ⟨he, own3, x, y, d3, HBT.out.trans b3 (fun g hg => ?_), fun k hk => ?_, fun h => ?_, j2⟩
          · rcases List.mem_cons.1 hg with rfl | hg
            · exact .inl (List.mem_cons_self ..)
            · exact (HS3.out g hg).imp (List.mem_cons_of_mem _) id
          · rcases s3 k hk with h | h
            · exact HS3.out k h
            · exact .inr (Nat.le_trans hz3 h)
          · have := j1 h
            rw [HN.out, HHV.out] at this
            exact this)
        obtain ⟨he, _⟩ := hB
        subst he
        go_wp2
        go_ret
        exact HFIN.out
      · have heri : (er != 0) = true := by rw [bne_iff_ne]; exact her
        have HFIN := Lib.hid (HTO.out (.returned (.int .i64 er)) w3 (D2, er) (by rw [HCS2.out, if_pos her]) ⟨rfl, own2, x2, y2, d2, hbt, hs3, fun h => absurd h her, fun _ => hj3⟩)
        clear d2 b2 s2 hbt hj3 hs3 hjn HT
        go_wp2
        go_ret
        exact HFIN.out
end Go.Proofs.YtocmfdahnekboaaDoor
