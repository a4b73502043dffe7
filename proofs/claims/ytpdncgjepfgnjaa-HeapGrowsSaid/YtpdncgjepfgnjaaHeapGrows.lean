/- For whatever numbers and step law HeapGrows answers true: a heap that is put into while it is drained still gives all in order, and is empty at the end. No condition. -/
import Derived.Test.YtpdncgjepfgnjaaHpAl
import Derived.Test.YtpdncgjepfgnjaaHpG
import Derived.Test.YtpdncgjepfgnjaaOpenHz
namespace Go.Proofs.Ytpdncgjepfgnjaa.heapGrows
open Go.ChangeShapes Go.WideShapes Go.ChangeAt Go.RowKit Go.Proofs.Ytpdncgjepfgnjaa
set_option linter.unusedVariables false
attribute [local go_sem] Oper.semAt_some

set_option maxRecDepth 100000 in
set_option maxHeartbeats 2000000 in
theorem walk (w : World) (p0 : Option Addr) (n0 c0 : Nat) (l0 : List Int) (S0 : PrsZ w.heap.size w (.slice p0 n0 c0) l0) (b0 : (∀ x ∈ l0, In64 x) ∧ l0.length ≤ Go.maxLen) (a1 : Int) (w1 : (Lit.int .i64 a1).wf = true) :
    Calls Try.prog 5 #[.slice p0 n0 c0, .int .i64 a1] w fun e w' => e = .returned (.bool true) ∧ Below w.heap.size w w' := by

  have hlen := S0.len
  subst hlen
  have HS := Lib.hid S0
  have HAL := Lib.hid (fun W => heapAlive_any W)
  obtain ⟨n0, hn0⟩ : ∃ n, l0.length = n := ⟨_, rfl⟩
  have HN := Lib.hid hn0
  have hmax := b0.2
  have HIN := Lib.hid b0.1
  rw [hn0] at hmax ⊢
  unfold maxLen at hmax
  clear S0 b0 hn0 w1
  by_cases hbig : 100 < n0
  · have c0' : decide ((100 : Int) < (n0 : Int)) = true := decide_eq_true (by omega)
    go_enter Try.func5, Try.ntmps5
    go_wp2_with (go_at_call 7; refine (HAL.out _).mono ?_; rintro e w1 ⟨rfl, hb⟩; have hs := start_two hb; have HZ1 := Lib.hid hs.1; have HS1 := Lib.hid hs.2.1; have HR1 := Lib.hid hs.2.2.1; have HB1 := Lib.hid hs.2.2.2; have q1 := cell_of_row w1 _ 0 _ _ _ hs.2.1; have q2 := cell_of_row w1 _ 0 _ _ _ hs.2.2.1; have z1 := frozen_of_row w1 _ 0 _ _ hs.2.1; have z2 := frozen_of_row w1 _ 0 _ _ hs.2.2.1; simp at q1 q2; clear hb hs)
    (try simp only [Exit.inBlock, Exit.then])
    refine bodyPost_ret (v := .bool true) ?_ rfl ⟨rfl, HB1.out.setCell (by simp) _⟩
    rw [results_cell1 rfl]
    simp [asAddr, Result.andThen]
    go_simp
  · have c0' : decide ((100 : Int) < (n0 : Int)) = false := decide_eq_false (by omega)
    have hle : n0 ≤ 100 := by omega
    obtain ⟨step, hst0, hst8, hstw⟩ := step_i64 a1
    refine (callsIn_wide (n := 3)).1 ?_
    refine callsIn_of_wp_marks Try.func5 rfl trivial ?_ rfl
    simp only [Try.ntmps5, List.size_toArray, List.length_cons, List.length_nil, Nat.reduceAdd, Nat.reduceSub, Array.replicate_succ, Array.replicate_zero, List.push_toArray, List.append_toArray, List.nil_append, List.cons_append]
    refine wpIn_wide.2 ?_
    go_upto_region 6 with (go_at_call 7; refine (HAL.out _).mono ?_; rintro e w1 ⟨rfl, hb⟩; have hs := start_two hb; have HZ1 := Lib.hid hs.1; have HS1 := Lib.hid hs.2.1; have HR1 := Lib.hid hs.2.2.1; have HB1 := Lib.hid hs.2.2.2; have q1 := cell_of_row w1 _ 0 _ _ _ hs.2.1; have q2 := cell_of_row w1 _ 0 _ _ _ hs.2.2.1; have z1 := frozen_of_row w1 _ 0 _ _ hs.2.1; have z2 := frozen_of_row w1 _ 0 _ _ hs.2.2.1; simp at q1 q2; clear hb hs)
    have s2 := heap_setCell_same w1 w.heap.size 0 _ _ (.int .i64 step) HS1.out
    have r2 := (Below.heap_setCell w1 ⟨w.heap.size, 0, none⟩ (.int .i64 step) (w.heap.size + 1) (by show w.heap.size + 1 ≠ w.heap.size; omega)).trans HR1.out
    have b2 : Below w.heap.size w (w1.setCell ⟨w.heap.size, 0, none⟩ (.int .i64 step)) := HB1.out.setCell (Nat.le_refl _) _
    have z2' : w.heap.size + 2 ≤ (w1.setCell ⟨w.heap.size, 0, none⟩ (.int .i64 step)).heap.size := by have := HZ1.out; simpa [World.setCell] using this
    obtain ⟨w2, hw2⟩ : ∃ w2, w1.setCell ⟨w.heap.size, 0, none⟩ (.int .i64 step) = w2 := ⟨_, rfl⟩
    rw [hw2] at s2 r2 b2 z2' ⊢
    simp at s2
    clear hw2 q1 q2 z1 z2 HS1 HR1 HZ1 HB1
    have bv : Below w2.heap.size w2 (w2.alloc (.cells #[.slice p0 n0 c0] 47)) := (Below.refl _ _).alloc (Nat.le_refl _) _
    have hs2 : PrsZ w2.heap.size w2 (.slice p0 n0 c0) l0 := by
      have h := HS.out
      rw [HN.out] at h
      exact (h.below b2 (Nat.le_refl _)).mono b2.size
    have HF := Lib.hid (fromZ ordGrow w2.heap.size p0 n0 c0 l0 (by rw [HN.out]; omega) (w2.alloc (.cells #[.slice p0 n0 c0] 47)) (cell_new_row w2 _ _ 0) ((hs2.below bv (Nat.le_refl _)).mono bv.size))
    have HS2 := Lib.hid s2
    have HR2 := Lib.hid r2
    have HB2 := Lib.hid b2
    have HZ2 := Lib.hid z2'
    clear s2 r2 b2 z2' hs2 bv
    go_upto_region 8 with (first
      | (go_at_call 23; refine (valuesZ p0 n0 c0 _).mono ?_; rintro e w' ⟨rfl, rfl⟩)
      | (go_at_call 21; refine HF.out.mono ?_; rintro e w3 ⟨b, own, v, rfl, h1, h2, h3⟩; have H1 := Lib.hid h1; have HO3 := Lib.hid h2; have B3 := Lib.hid h3; clear h1 h2 h3))
    obtain ⟨W5, hW5⟩ : ∃ W5, (((w3.alloc (Obj.cells #[Value.pointer (some ⟨b, 0, none⟩)] 48)).alloc (Obj.cells #[Value.int IntKind.i64 0] 3)).alloc (Obj.cells #[Value.int IntKind.i64 (-9223372036854775808)] 2)) = W5 := ⟨_, rfl⟩
    have b5 : Below w3.heap.size w3 W5 := by rw [← hW5]; exact (((Below.refl _ _).alloc (Nat.le_refl _) _).alloc (by simp) _).alloc (by simp; omega) _
    have z5 : W5.heap.size = w3.heap.size + 3 := by rw [← hW5]; simp
    have x5 : W5.heap[w3.heap.size]? = some (.cells #[.pointer (some ⟨b, 0, none⟩)] 48 (0, 0)) := by rw [← hW5]; exact (heap_alloc_old' _ _ _ (by simp; omega)).trans ((heap_alloc_old' _ _ _ (by simp)).trans (World.alloc_heap_new w3 _))
    have n5 : W5.heap[w3.heap.size + 1]? = some (.cells #[.int .i64 ((0 : Nat) : Int)] 3 (0, 0)) := by
      rw [← hW5]
      have := World.alloc_heap_new (w3.alloc (Obj.cells #[Value.pointer (some ⟨b, 0, none⟩)] 48)) (Obj.cells #[Value.int IntKind.i64 0] 3)
      rw [World.size_alloc] at this
      exact (heap_alloc_old' _ _ _ (by simp)).trans this
    have l5 : W5.heap[w3.heap.size + 1 + 1]? = some (.cells #[.int .i64 (-9223372036854775808)] 2 (0, 0)) := by
      rw [← hW5]
      have := World.alloc_heap_new ((w3.alloc (Obj.cells #[Value.pointer (some ⟨b, 0, none⟩)] 48)).alloc (Obj.cells #[Value.int IntKind.i64 0] 3)) (Obj.cells #[Value.int IntKind.i64 (-9223372036854775808)] 2)
      rw [World.size_alloc, World.size_alloc] at this
      exact this
    rw [hW5]
    have xc := cell_of_row W5 _ 0 _ _ _ x5
    simp at xc
    have B5 := Lib.hid b5
    have Z5 := Lib.hid z5
    have X5 := Lib.hid x5
    have N5 := Lib.hid n5
    have L5 := Lib.hid l5
    clear hW5 b5 z5 x5 n5 l5 hstw
    go_wp2_with fail
    refine (drainZ b W5).mono ?_
    rintro e w6 ⟨rfl, hw6⟩
    have hb6 : Below W5.heap.size W5 w6 := by rw [hw6]; exact (Below.refl _ _).alloc (Nat.le_refl _) _
    have hz6 : w6.heap.size = W5.heap.size + 1 := by rw [hw6]; simp
    have hp6 : w6.heap[W5.heap.size]? = some (.cells #[.pointer (some ⟨b, 0, none⟩)] 48 (0, 0)) := by rw [hw6]; exact World.alloc_heap_new W5 _
    have z5 := Z5.out
    have z3 := B3.out.size
    rw [World.size_alloc] at z3
    have z2 := HZ2.out
    have hb23 : Below w2.heap.size w2 w3 := ((Below.refl w2.heap.size w2).alloc (Nat.le_refl _) (.cells #[.slice p0 n0 c0] 47)).trans (B3.out.mono (by simp))
    have hb36 : Below w3.heap.size w3 w6 := B5.out.trans (hb6.mono (by omega))
    have hb26 : Below w2.heap.size w2 w6 := hb23.trans (hb36.mono (by omega))
    have hown3 := HO3.out
    have hlt3 := H1.out.lt
    obtain ⟨k, hk⟩ : ∃ k : GrB, k = ⟨w.heap.size, w.heap.size + 1, w3.heap.size, w3.heap.size + 1, w3.heap.size + 1 + 1, W5.heap.size, w6.heap.size⟩ := ⟨_, rfl⟩
    have hok : k.Ok w := by subst hk; exact ⟨Nat.le_refl _, by simp, by simp; omega, by simp, by simp, by simp; omega, by simp; omega⟩
    have e1 : k.s = w.heap.size := by rw [hk]
    have e2 : k.r = w.heap.size + 1 := by rw [hk]
    have e3 : k.x = w3.heap.size := by rw [hk]
    have e4 : k.n = w3.heap.size + 1 := by rw [hk]
    have e5 : k.l = w3.heap.size + 1 + 1 := by rw [hk]
    have e6 : k.h = W5.heap.size := by rw [hk]
    have e7 : k.B = w6.heap.size := by rw [hk]
    clear hk
    have HJ0 : Hid (GrH b k step w ⟨own, heapS (fun x : Int => x) l0, ofS (fun x : Int => x) l0, l0.length, 0, -9223372036854775808⟩ w6) := Lib.hid ⟨⟨v, H1.out.below hb36 (Nat.le_refl _)⟩, heapS_rep _ _ l0 rfl,
      by rw [e1]; exact (hb26.block _ (by omega)).trans HS2.out, by rw [e2]; exact (hb26.block _ (by omega)).trans HR2.out, by rw [e3]; exact (hb6.block _ (by omega)).trans X5.out, by rw [e4]; exact (hb6.block _ (by omega)).trans N5.out, by rw [e5]; exact (hb6.block _ (by omega)).trans L5.out,
      by rw [e6]; exact hp6, fun j hj => by
        have q1 := hown3 j hj
        have q2 := hlt3 j hj
        rw [World.size_alloc] at q1
        exact ⟨by omega, by omega, by omega, by omega, by omega, by omega, by omega, by omega, by omega⟩, HB2.out.trans (hb26.mono (by omega))⟩
    have HP0 : Hid (GrP n0 ⟨own, heapS (fun x : Int => x) l0, ofS (fun x : Int => x) l0, l0.length, 0, -9223372036854775808⟩) := Lib.hid (by
      have hlo : (ofS (fun x : Int => x) l0).length = n0 := by rw [(heapS_rep (fun x : Int => x) _ l0 rfl).len, heapS_len]; exact HN.out
      have hin := HIN.out
      have hn := HN.out
      refine ⟨by simp only; omega, by simp only; omega, by simp only; omega, fun y hy => ?_, fun y hy => ?_⟩
      · exact (hin _ (ofS_mem _ l0 rfl y hy)).1
      · exact hin _ (ofS_mem _ l0 rfl y hy))
    have HOK := Lib.hid hok
    have hnd : k.n ≠ k.l := by omega
    have hnx : k.n ≠ k.x := by omega
    have hns : k.n ≠ k.s := by omega
    have hlx : k.l ≠ k.x := by omega
    have hls : k.l ≠ k.s := by omega
    have hln : k.l ≠ k.n := by omega
    rw [← e2, ← e1, ← e5, ← e4, ← e3, ← e6]
    clear hw6 hz6 hp6 z5 z3 z2 hb23 hb36 hb26 hown3 hlt3 hok hb6 e1 e2 e3 e4 e5 e6
    go_wp2_with fail
    rename_i K hKQ
    refine (wpIn_wide (n := 3)).1 ?_
    refine wpIn_actG ?_
    intro A hA
    have hseq := drain1Z (Jx := fun _ _ => False) (s0 := (⟨own, heapS (fun x : Int => x) l0, ofS (fun x : Int => x) l0, l0.length, 0, -9223372036854775808⟩ : GrS)) ordGrow (grC (b := b) (L0 := n0) (step := step) HOK.out)
    rw [e7] at hseq
    have HSEQ := Lib.hid hseq
    clear hseq
    refine rangeG rfl (by omega) (gf := 51) (lb := #[.pointer (some ⟨k.h, 0, none⟩)]) (by rw [hA]; rfl) trivial (enters_of Try.func51 (by kernel_rfl) rfl) (encs := fun (x : Int) => #[valZ x]) (fun _ => rfl)
      (fun (s : GrS) W => GrH b k step w s W ∧ GrP n0 s) (fun (s : GrS) (x : Int) W => GrH b k step w s.pop W ∧ GrP n0 s ∧ InOrder (ahK (fun x : Int => x)) s.S ∧ ∃ p S', s.S = (x, p) :: S')
      (fun (s : GrS) (x : Int) a1' W => (GrH b k step w s.pop W ∧ GrP n0 s ∧ InOrder (ahK (fun x : Int => x)) s.S ∧ ∃ p S', s.S = (x, p) :: S') ∧ a1' = { tmps := (A.tmps.setIfInBounds 22 (valZ x)).setIfInBounds 8 (valZ x), defers := [] })
      (fun c W => False) (fun s s' => s'.rank < s.rank) (fun s _ => s.S = []) ⟨own, heapS (fun x : Int => x) l0, ofS (fun x : Int => x) l0, l0.length, 0, -9223372036854775808⟩
      (fun s W o j hj h => ⟨GrH.noRec HOK.out W o j (by rw [e7]; exact hj) h.1, h.2⟩)
      (fun s x a1' W o j hj h => ⟨⟨GrH.noRec HOK.out W o j (by rw [e7]; exact hj) h.1.1, h.1.2⟩, h.2⟩)
      (fun c W o j hj h => h) (fun _ _ _ _ _ h => h) (fun r => ⟨(HJ0.out.below ((Below.refl _ _).alloc (Nat.le_refl _) _)).below ((Below.refl _ _).alloc (Nat.le_refl _) _), HP0.out⟩)
      HSEQ.out
      ?assign ?body ?done ?stop
    case assign =>
      rintro lx s x W K' hj hzW hK
      rw [hA] at hK ⊢
      unfold valZ at hK ⊢
      gi_wp2
      exact hK _ _ ⟨hj, rfl⟩ (SameRec.refl _ _)
    case body =>
      rintro lx s x a1' V ⟨⟨hj, hP, hI, p, S', hS⟩, rfl⟩ hzV
      have hcn := cell_of_row V _ 0 _ _ _ hj.num
      have hcl := cell_of_row V _ 0 _ _ _ hj.lst
      have hcs := cell_of_row V _ 0 _ _ _ hj.stp
      have hcx := cell_of_row V _ 0 _ _ _ hj.hbx
      have hfn := frozen_of_row V _ 0 _ _ hj.num
      have hfl := frozen_of_row V _ 0 _ _ hj.lst
      simp [GrS.pop] at hcn hcl hcs hcx
      have hzB : k.B + 2 ≤ V.heap.size := by rw [e7]; exact hzV
      obtain ⟨sn, hsn⟩ : ∃ sn, s.n = sn := ⟨_, rfl⟩
      obtain ⟨sla, hsla⟩ : ∃ sla, s.last = sla := ⟨_, rfl⟩
      obtain ⟨d1, d2, d3, hS150, hpu0, hpu1, hxb⟩ := hP.round hI hS hsn hsla
      obtain ⟨hset, hsr⟩ := hj.nop' (x := x) HOK.out hsn hzB
      have hnop := hP.nop hI hS
      have hput := fun (hn : s.n + 1 ≤ 50) (hx : x < 1152921504606846976) => hP.put hI hS hn hx ⟨hst0, hst8⟩
      have hpn : ∀ hn : s.n + 1 ≤ 50, ∀ hx : x < 1152921504606846976, Calls Try.prog 25 #[.pointer (some ⟨b, 0, none⟩), .int .i64 (x + step)] ((V.setCell ⟨k.l, 0, none⟩ (.int .i64 x)).setCell ⟨k.n, 0, none⟩ (.int .i64 ((sn : Int) + 1))) fun e W' => e = .returned (.tuple #[]) ∧ (∃ s', s'.rank < s.rank ∧ GrH b k step w s' W' ∧ GrP n0 s') ∧ W'.cell? ⟨k.n, 0, none⟩ = some (.int .i64 ((sn : Int) + 1)) ∧ SameRec k.B V W' := fun hn hx => by
        refine (hset.put HOK.out (by simpa [World.setCell] using hzB) (x + step) hS150 hpu0 hpu1).mono ?_
        rintro e W' ⟨rfl, own', l', h4, b4⟩
        have hg := hput hn hx own' l'
        have c4 := cell_of_row W' _ 0 _ _ _ h4.num
        simp [GrS.nop, hsn] at c4
        have he : (s.nop x).S = S' := by simp only [GrS.nop, hS, List.tail_cons]
        rw [he] at h4
        refine ⟨rfl, ⟨_, hg.2, h4, hg.1⟩, c4, hsr.trans (sameRec_but b4 (fun hm => (hset.own _ hm).2.2.2.2.2.2.2.1 rfl) (fun hm => (hset.own _ hm).2.2.2.2.2.2.2.2 rfl) (by simpa [World.setCell] using hzB))⟩
      have HSET := Lib.hid hset
      have HSR := Lib.hid hsr
      have HNOP := Lib.hid hnop
      have HPN := Lib.hid hpn
      rw [hsn] at hcn HPN
      rw [hsla] at hcl
      have E7 := Lib.hid e7
      clear hset hj hP hI hS hsn hsla HSEQ HJ0 HP0 e7 hnop hput hpn hsr hS150 hzB hzV hpu0 hpu1
      unfold valZ
      rw [hA]
      by_cases hc1 : sn + 1 ≤ 50
      · by_cases hc2 : x < 1152921504606846976
        · have d4 : decide (((sn : Int) + 1) ≤ 50) = true := grow_le hc1
          have d5 : decide (x < 1152921504606846976) = true := decide_eq_true hc2
          have d6 : wrap64 (x + step) = x + step := grow_sum hxb hc2 hst0 hst8
          gi_wp2_with (refine ⟨trivial, ?_⟩; gi_at_call 25; refine (CallsIn.inRound lx (callsIn_wide.2 (HPN.out hc1 hc2))).mono ?_; rintro e w4 ⟨rfl, hs4, c4, hr4⟩; have H4 := Lib.hid hs4; have R4 := Lib.hid hr4; clear hs4 hr4)
          obtain ⟨s', g1, g2, g3⟩ := H4.out
          have hr := R4.out
          rw [E7.out] at hr
          exact ⟨hr, s', g1, g2, g3⟩
        · have d4 : decide (((sn : Int) + 1) ≤ 50) = true := grow_le hc1
          have d5 : decide (x < 1152921504606846976) = false := decide_eq_false hc2
          gi_wp2_with fail
          have hr := HSR.out
          rw [E7.out] at hr
          exact ⟨hr, s.nop x, HNOP.out.2, HSET.out, HNOP.out.1⟩
      · have d4 : decide (((sn : Int) + 1) ≤ 50) = false := grow_gt hc1
        gi_wp2_with fail
        have hr := HSR.out
        rw [E7.out] at hr
        exact ⟨hr, s.nop x, HNOP.out.2, HSET.out, HNOP.out.1⟩
    case done =>
      rintro s W ⟨hj, hP⟩ hS hD
      rw [hA]
      refine hKQ _ _ ?_
      have hcn := cell_of_row W _ 0 _ _ _ hj.num
      have hcx := cell_of_row W _ 0 _ _ _ hj.hbx
      have hcr := cell_of_row W _ 0 _ _ _ hj.res
      have hfr := frozen_of_row W _ 0 _ _ hj.res
      simp at hcn hcx hcr
      obtain ⟨vH, hH⟩ := hj.heap
      have hl := hj.rep.len
      have hge := hP.ge
      have hcnt := hP.cnt
      rw [hS] at hl hge hcnt
      simp at hl hge hcnt
      have HLN := Lib.hid (hlenZ W hH)
      rw [← hl] at HLN
      obtain ⟨sn, hsn⟩ : ∃ sn, s.n = sn := ⟨_, rfl⟩
      rw [hsn] at hcn hge
      have d1 : decide ((n0 : Int) ≤ (sn : Int)) = true := decide_eq_true (by omega)
      have d2 : decide (n0 ≤ sn) = true := decide_eq_true (by omega)
      have HD := Lib.hid hD
      have HBE := Lib.hid hj.bel
      have HRS := Lib.hid hj.res
      have E7 := Lib.hid e7
      clear hj hP hS hD hH hl hcnt hsn HSEQ HJ0 HP0 e7
      go_wp2_with (go_at_call 26; refine HLN.out.mono ?_; rintro e w' ⟨rfl, rfl⟩)
      have hrB : k.r ≠ w6.heap.size := by
        have h1 := HOK.out.c; have h2 := HOK.out.d; have h3 := HOK.out.e; have h4 := HOK.out.f; have h5 := HOK.out.g; have h6 := E7.out
        omega
      have hD' : (W.setCell ⟨k.r, 0, none⟩ (.bool true)).heap[w6.heap.size]? = some (.deferred (some [])) := (Below.heap_setCell W ⟨k.r, 0, none⟩ (.bool true) w6.heap.size (fun e => hrB e.symm)).trans HD.out
      have hrow := heap_setCell_same W k.r 0 _ _ (.bool true) HRS.out
      have hrow2 : ((W.setCell ⟨k.r, 0, none⟩ (.bool true)).putObj w6.heap.size (.deferred none)).heap[k.r]? = some (.cells #[.bool true] 4 (0, 0)) := (World.putObj_heap_other hrB).trans (by simpa using hrow)
      have hc := cell_of_row _ k.r 0 _ _ _ hrow2
      simp at hc
      have hbe : Below w.heap.size w ((W.setCell ⟨k.r, 0, none⟩ (.bool true)).putObj w6.heap.size (.deferred none)) := by
        have q1 := HOK.out.a; have q2 := HOK.out.b; have h1 := HOK.out.c; have h2 := HOK.out.d; have h3 := HOK.out.e; have h4 := HOK.out.f; have h5 := HOK.out.g; have h6 := E7.out
        have hs : Below w.heap.size w (W.setCell ⟨k.r, 0, none⟩ (.bool true)) := HBE.out.setCell (by show w.heap.size ≤ k.r; omega) _
        exact hs.trans ((But.putObj _ w6.heap.size _).below (fun j hj => by simp at hj; omega) hs.size)
      have HBE2 := Lib.hid hbe
      clear hbe hrow hrow2
      refine ⟨by simp, .inl ⟨_, _, rfl, run_takeDeferred hD', ?_⟩⟩
      refine ⟨.bool true, ?_, rfl, HBE2.out⟩
      rw [results_cell1 rfl]
      simp [asAddr, Result.andThen]
      go_simp
    case stop =>
      rintro c W hF hD
      exact hF.elim


set_option maxRecDepth 100000 in
theorem lifted (os : Os) (started : os.Started) (H : Type) (enc : TypeId × Value → H) :
    ReturnsInHanded {} Try.checked os 5 .any (Rows.heapGrowsSpec.pre6 enc Try.prog Try.f5 Rows.heapGrowsRow.domain false) (Rows.heapGrowsSpec.post enc Try.prog Try.f5 false true false false) := by
  refine returnsInHanded_of_change (C := Try.checked) own started (by kernel_rfl) Try.func5
    (ChangeSpec.witness6 (enc := enc) (C := Try.checked) false ⟨#[], #[.slice none 0 0, .int .i64 0], []⟩ 8 (by kernel_rfl) (by kernel_rfl) (by kernel_rfl) (by kernel_rfl)) ?_
  intro W base args ds gs before hval0 hW hcnd _
  have hval : ∀ (j : Nat) t v, Try.f5.params[j]? = some t → args[j]? = some v → Value.okWide Try.prog W .any base t v := hval0
  have hW' := hW
  obtain ⟨p, q, hA0, hV, rfl, hfz, hnd⟩ := hW
  have hA : DataW.TrodAll enc Try.prog W 0 (fun _ => true) true Try.f5.params.toList args.toList ds p := hA0
  rw [Try.params5] at hA hval
  have hAk := hA
  obtain ⟨v0, vs0, d0, ds0, p0', q0, hargs, rfl, rfl, h0, r0⟩ := trodAll_cons hA
  obtain ⟨v1, vs1, d1, ds1, p1', q1, rfl, rfl, rfl, h1, r1⟩ := trodAll_cons r0
  obtain ⟨rfl, rfl, rfl⟩ := trodAll_nil r1
  obtain rfl : args = #[v0, v1] := by cases args; simp_all
  obtain ⟨rfl, rfl⟩ := trodVars_none hV
  simp only [List.append_nil] at hW' hAk
  have hlt := fun x hx => hW'.lt x hx
  clear hA0 hval0
  obtain ⟨p0, n0, c0, l0, rfl, S0, b0⟩ := open_lnums (okWide_slice Try.underlying47 (hval 0 47 v0 rfl rfl)) h0
  obtain ⟨a1, rfl, rfl, rfl, w1⟩ := open_int Try.underlying2 (hval 1 2 v1 rfl rfl) h1
  refine (walk W p0 n0 c0 l0 S0 b0 a1 w1).mono fun e W' ⟨he, hg⟩ => ?_
  subst he
  have hargs := trodAll_below hg _ _ _ _ (by intro t ht; simp only [List.mem_cons, List.not_mem_nil, or_false] at ht; revert t; rintro t (rfl | rfl) <;> exact ⟨by kernel_rfl, of_decide_eq_true (by kernel_rfl)⟩) hAk (fun x hx => by simpa using hlt x hx)
  exact ⟨_, rfl, _, _, _, [], _, [], hW', (trodAll_cons_mk (shut_bool Try.underlying4 _) trodAll_mk0), hargs, rfl, hg.frame _, fun h => by cases h⟩

theorem over : Rows.heapGrowsRow.holds Try.pinned (OpenSpec.ofChange Rows.heapGrowsSpec) :=
  OpenClaim.holds_of_wide 5 Try.f5 rfl rfl rfl rfl rfl rfl rfl ⟨rfl, rfl, rfl, rfl, rfl⟩ rfl rfl rfl rfl rfl (by kernel_rfl) Try.func5 (by kernel_rfl)
    (of_decide_eq_true (by kernel_rfl)) (by unfold Func.isWrapper; first | (rw [if_pos (by decide +kernel)]; kernel_rfl) | (rw [if_neg (by decide +kernel)]; exact ⟨rfl, rfl⟩))
    (fun os started H enc _ => lifted os started H enc)

theorem proved : Rows.HeapGrowsSaid :=
  over
end Go.Proofs.Ytpdncgjepfgnjaa.heapGrows
