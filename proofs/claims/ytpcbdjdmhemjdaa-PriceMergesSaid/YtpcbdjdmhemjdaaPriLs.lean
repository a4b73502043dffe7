/- Stores held against each other: Less, Merge. -/
import Derived.Test.YtpcbdjdmhemjdaaPriV
import Derived.Laws.AppendOwnNone
namespace Go.Proofs.Ytpcbdjdmhemjdaa
open Go.RowKit
set_option linter.unusedVariables false
attribute [local go_sem] Oper.semAt_some

/-- The first entry for which less is asked. -/
def lessF (es fs : List Ent) : Option Ent := fs.find? fun e => decide (askL withinB es e.1 < e.2)
def lessS (es fs : List Ent) : Nat := match lessF es fs with | some e => e.1 | none => 0
set_option maxRecDepth 100000 in
set_option maxHeartbeats 8000000 in
theorem less_any {b b2 : Nat} {sv sv2 : Value} {es fs : List Ent} (w : World) (h : PS w b sv es) (h2 : PS w b2 sv2 fs) (hlen : es.length ≤ 1048576) (hlen2 : fs.length ≤ 1048576) :
    Calls Try.prog 24 #[.pointer (some ⟨b, 0, none⟩), .pointer (some ⟨b2, 0, none⟩)] w fun o w' => o = .returned (.tuple #[.int .u64 (lessS es fs : Nat), .bool (lessF es fs).isSome]) ∧ Below w.heap.size w w' := by
  obtain ⟨a2, c2, rfl⟩ := h2.form
  have HE := Lib.hid (entriesOf_any w h2)
  have HPS := Lib.hid h
  have HZ := Lib.hid h2.row
  obtain ⟨n, hn⟩ : ∃ n, fs.length = n := ⟨_, rfl⟩
  have HN := Lib.hid hn
  have HOK : Hid (∀ x ∈ fs, okS x.1) := Lib.hid (fun x hx => (h2.tie.right x hx).1)
  rw [hn] at HE HZ
  have hn0 : n ≤ 1048576 := by omega
  clear h h2 hn hlen2
  go_enter Try.func24, Try.ntmps24
  go_wp2_with fail
  refine HE.out.mono ?_
  rintro o w1 ⟨rfl, hw1⟩
  obtain rfl := hw1
  go_wp2_with fail
  go_loopw [11] (fun i wr => ∃ m : Nat, i = .int .i64 m ∧ m ≤ n ∧ (∀ e ∈ fs.take m, ¬ askL withinB es e.1 < e.2) ∧ Below w.heap.size w wr) (fun i _ => n - (intOf i).toNat)
  case atStart => exact ⟨0, rfl, Nat.zero_le _, (fun e he => by simp at he), Below.refl _ _⟩
  case round =>
    obtain ⟨m, rfl, hm, hno, hB⟩ := hrel
    obtain ⟨wo, hwo⟩ : ∃ x, x = wr := ⟨wr, rfl⟩
    subst hwo
    have HB := Lib.hid hB
    have HNO := Lib.hid hno
    by_cases hlt : m < n
    · obtain ⟨⟨k, u⟩, hx⟩ : ∃ x, fs[m]? = some x := ⟨_, List.getElem?_eq_getElem (by rw [HN.out]; exact hlt)⟩
      obtain ⟨g, off, rfl, hg, f0, f1⟩ := HZ.out.at_ hx
      have hkok : okS k := HOK.out _ (List.mem_of_getElem? hx)
      have d0 := (hB.cell (p := ⟨g, off + m * 2, none⟩) hg).trans f0
      have d1 := (hB.cell (p := ⟨g, off + m * 2 + 1, none⟩) hg).trans f1
      simp only at d0 d1
      have b1 : (0 : Int) ≤ m := by omega
      have b2' : (m : Int) < n := by omega
      obtain ⟨W1, hW1⟩ : ∃ W1, wo.alloc (.cells #[.int .u64 (k : Nat), .int .i64 u] 41) = W1 := ⟨_, rfl⟩
      have hb2 : Below wo.heap.size wo W1 := by rw [← hW1]; exact (Below.refl _ _).alloc (Nat.le_refl _) _
      have hn2 : W1.heap[wo.heap.size]? = some (.cells #[.int .u64 (k : Nat), .int .i64 u] 41) := by rw [← hW1]; exact World.alloc_heap_new wo _
      have hbl : wo.heap.size < W1.heap.size := (Array.getElem?_eq_some_iff.1 hn2).1
      have hb3 : Below w.heap.size w W1 := hB.trans (hb2.mono hB.size)
      have c0 : ∀ p : BelW W1, p.W.cell? ⟨wo.heap.size, 0, none⟩ = some (.int .u64 (k : Nat)) := fun p => (p.h.cell (p := ⟨wo.heap.size, 0, none⟩) hbl).trans (cell_of_row W1 _ 0 _ _ _ hn2)
      have c1 : ∀ p : BelW W1, p.W.cell? ⟨wo.heap.size, 1, none⟩ = some (.int .i64 u) := fun p => (p.h.cell (p := ⟨wo.heap.size, 1, none⟩) hbl).trans (cell_of_row W1 _ 1 _ _ _ hn2)
      have HC0 : Hid (∀ p : BelW W1, p.W.cell? ⟨wo.heap.size, 0, none⟩ = some (.int .u64 (k : Nat))) := Lib.hid c0
      have HAK := Lib.hid (fun (p : BelW W1) => ask_any k p.W (HPS.out.below (hb3.trans (p.h.mono hb3.size))) hkok hlen)
      have HW1 := Lib.hid hW1
      have HB3 := Lib.hid hb3
      have HX := Lib.hid hx
      obtain ⟨av, hav⟩ : ∃ v, askL withinB es k = v := ⟨_, rfl⟩
      rw [hav] at HAK
      have HAV := Lib.hid hav
      clear hB f0 f1 hW1 hb2 hn2 hbl hb3 hx hno hav
      by_cases hc : av < u
      · have hd : decide (av < u) = true := decide_eq_true hc
        have HF9 : Hid (lessF es fs = some (k, u)) := Lib.hid (by
          unfold lessF
          rw [← List.take_append_drop m fs, List.find?_append, List.find?_eq_none.2 (fun e he => by simpa using HNO.out e he)]
          obtain ⟨q1, q2⟩ := List.getElem?_eq_some_iff.1 HX.out
          rw [List.drop_eq_getElem_cons q1, q2, List.find?_cons_of_pos (by simp only; rw [HAV.out]; exact hd)]
          rfl)
        go_upto_region 4 with fail
        rw [HW1.out]
        refine wp_region_bel (by kernel_rfl) (by kernel_rfl) (WQ.out ?_)
        repeat (
          refine WQ.step (fun K hK => ?_)
          go_simp
          first
            | (refine hK _ ?_; clear hK K)
            | (apply Exists.intro
               refine ⟨fun _ => ?_, hK _ ?_⟩
               (first | (go_at_call 15; exact Calls.bel_of (HAK.out _)))
               clear hK K))
        refine WQ.nil ?_
        rintro W3 ⟨p, rfl⟩
        have HF := Lib.hid (HB3.out.trans (p.h.mono HB3.out.size))
        have e0 := HC0.out p
        obtain ⟨w3, hw3⟩ : ∃ x, p.W = x := ⟨_, rfl⟩
        rw [hw3] at HF e0 ⊢
        clear hw3 c0 c1
        go_wp2_with fail
        go_ret2
        exact ⟨by unfold lessS; rw [HF9.out]; rfl, HF.out⟩
      · have hd : decide (av < u) = false := decide_eq_false hc
        go_upto_region 4 with fail
        rw [HW1.out]
        refine wp_region_bel (by kernel_rfl) (by kernel_rfl) (WQ.out ?_)
        repeat (
          refine WQ.step (fun K hK => ?_)
          go_simp
          first
            | (refine hK _ ?_; clear hK K)
            | (apply Exists.intro
               refine ⟨fun _ => ?_, hK _ ?_⟩
               (first | (go_at_call 15; exact Calls.bel_of (HAK.out _)))
               clear hK K))
        refine WQ.nil ?_
        rintro W3 ⟨p, rfl⟩
        have HF := Lib.hid (HB3.out.trans (p.h.mono HB3.out.size))
        obtain ⟨w3, hw3⟩ : ∃ x, p.W = x := ⟨_, rfl⟩
        rw [hw3] at HF ⊢
        clear hw3 p c0 c1
        go_wp2_with fail
        go_roundw
        case rel => exact ⟨m + 1, by go_num, by omega, (fun e he => by
          rw [take_snoc HX.out] at he
          rcases List.mem_append.1 he with he | he
          · exact HNO.out e he
          · obtain rfl := List.mem_singleton.1 he
            simp only
            rw [HAV.out]
            exact hc), HF.out⟩
        case measure => simp [intOf]; omega
    · obtain rfl : m = n := by omega
      have HF9 : Hid (lessF es fs = none) := Lib.hid (by
        unfold lessF
        rw [List.find?_eq_none]
        intro e he
        have := hno e (by rw [List.take_of_length_le (by rw [HN.out]; exact Nat.le_refl _)]; exact he)
        simpa using this)
      clear hB hno
      go_wp2_with fail
      go_ret2
      exact ⟨by unfold lessS; rw [HF9.out]; rfl, HB.out⟩
theorem run_append_none {P : Program} {w : World} {base : Nat} (t ty e : TypeId) (i : TypeInfo) (size : Nat) (ht : P.underlying t = some (.slice e)) (hi : P.info? e = some i)
    (v : Value) (n pc : Nat) (xs : List Value) (hown : w.ownsRow base e size v n xs) :
    (Builtin.append_ #[t, t] ty #[v, .slice none 0 pc]).run P w = .ok v w := by
  rcases hown.2 with ⟨rfl, rfl⟩ | ⟨g, cap, cur, rfl, _, _, hnc, _⟩
  · simp [Builtin.append_, run_underlying ht, sizeOf, typeInfo, hi, Builtin.lenOf, Builtin.firstCells]
  · simp [Builtin.append_, run_underlying ht, sizeOf, typeInfo, hi, Builtin.lenOf, Builtin.firstCells, hnc, storeCells]
/-- Stores that are handed over in a row. -/
def PtrsP (W : World) (a : Option Addr) (L : List (Nat × Value × List Ent)) : Prop :=
  ∀ j x, L[j]? = some x → ∃ b off, a = some ⟨b, off, none⟩ ∧ b < W.heap.size ∧ W.cell? ⟨b, off + j, none⟩ = some (.pointer (some ⟨x.1, 0, none⟩)) ∧ PS W x.1 x.2.1 x.2.2
def flatL (L : List (Nat × Value × List Ent)) : List Ent := L.flatMap fun x => x.2.2
theorem flatL_snoc (L : List (Nat × Value × List Ent)) (x : Nat × Value × List Ent) : flatL (L ++ [x]) = flatL L ++ x.2.2 := by unfold flatL; rw [List.flatMap_append]; simp
set_option maxRecDepth 100000 in
set_option maxHeartbeats 8000000 in
theorem merge_any (a : Option Addr) (n c : Nat) (L : List (Nat × Value × List Ent)) (w : World) (hn : L.length = n) (hp : PtrsP w a L) (hl : ∀ x ∈ L, x.2.2.length ≤ 1000) (hn0 : n ≤ 100) :
    Calls Try.prog 23 #[.slice a n c] w fun o w' => ∃ b sv, o = .returned (.pointer (some ⟨b, 0, none⟩)) ∧ w.heap.size ≤ b ∧ PS w' b sv (ofP (flatL L)) ∧ Below w.heap.size w w' := by
  obtain ⟨i0, hi, hz0, hz1, hz2⟩ := info_parts infoTE
  have HN := Lib.hid hn
  have HP := Lib.hid hp
  have HL := Lib.hid hl
  have hfl : ∀ m, m ≤ n → (flatL (L.take m)).length ≤ 1000 * m := by
    intro m
    induction m with
    | zero => intro _; simp [flatL]
    | succ m ih =>
      intro hm
      obtain ⟨x, hx⟩ : ∃ x, L[m]? = some x := ⟨_, List.getElem?_eq_getElem (by omega)⟩
      rw [take_snoc hx, flatL_snoc, List.length_append]
      have := ih (by omega)
      have := hl x (List.mem_of_getElem? hx)
      omega
  have HFL := Lib.hid hfl
  have hokl : ∀ x ∈ flatL L, okS x.1 := fun x hx => by
    unfold flatL at hx
    obtain ⟨y, hy, hxy⟩ := List.mem_flatMap.1 hx
    obtain ⟨j, hj⟩ := List.getElem?_of_mem hy
    obtain ⟨b, off, _, _, _, hps⟩ := hp j y hj
    exact (hps.tie.right x hxy).1
  have HOK := Lib.hid hokl
  clear hn hp hl hfl hokl
  go_enter Try.func23, Try.ntmps23
  go_wp2_with fail
  go_loopw [3, 8] (fun v i wr => ∃ m : Nat, i = .int .i64 m ∧ m ≤ n ∧ wr.ownsRow w.heap.size 41 2 v (flatL (L.take m)).length (flatVE (flatL (L.take m))) ∧ Below w.heap.size w wr) (fun _ i _ => n - (intOf i).toNat)
  case atStart => exact ⟨0, rfl, Nat.zero_le _, World.ownsRow_nil _ _ _ _, Below.refl _ _⟩
  case round =>
    obtain ⟨m, rfl, hm, hrow, hB⟩ := hrel
    obtain ⟨wo, hwo⟩ : ∃ x, x = wr := ⟨wr, rfl⟩
    subst hwo
    have HB := Lib.hid hB
    have HROW := Lib.hid hrow
    have hfm := HFL.out m hm
    by_cases hlt : m < n
    · obtain ⟨⟨pb, psv, es⟩, hx⟩ : ∃ x, L[m]? = some x := ⟨_, List.getElem?_eq_getElem (by rw [HN.out]; exact hlt)⟩
      obtain ⟨b, off, rfl, hb, f0, hps⟩ := HP.out m _ hx
      simp only at f0 hps
      have d0 := (hB.cell (p := ⟨b, off + m, none⟩) hb).trans f0
      have hpw : PS wo pb psv es := hps.but (own := []) ⟨hB.os, hB.tape, hB.output, hB.size, fun k hk _ => hB.block k hk⟩ (by simp) (fun _ _ _ _ _ hk => nomatch hk)
      have b1 : (0 : Int) ≤ m := by omega
      have b2 : (m : Int) < n := by omega
      have HEO := Lib.hid (entriesOf_any wo hpw)
      have hel : es.length ≤ 1000 := HL.out _ (List.mem_of_getElem? hx)
      have hst : flatL (L.take (m + 1)) = flatL (L.take m) ++ es := by rw [take_snoc hx, flatL_snoc]
      obtain ⟨acc, hacc⟩ : ∃ acc, flatL (L.take m) = acc := ⟨_, rfl⟩
      rw [hacc] at hst hfm HROW
      have HST := Lib.hid hst
      have hws := hB.size
      have hE := hpw.row
      obtain ⟨pa, pc, rfl⟩ := hpw.form
      cases pa with
      | none =>
        obtain rfl := hpw.nil _ _ rfl
        have hpc : Hid (PS wo pb (.slice none ([] : List Ent).length pc) []) := Lib.hid hpw
        have hrn := run_append_none (P := Try.prog) 22 22 41 i0 2 Try.underlying22 hi _ acc.length pc (flatVE acc) HROW.out
        clear hrow hx f0 hps hpw hst hacc hE hB
        go_wp2_with fail
        refine HEO.out.mono ?_
        rintro o w1 ⟨rfl, hw1⟩
        obtain rfl := hw1
        go_wp2_with (at_builtin; refine wpList_append_runP _ rfl _ _ 22 22 rfl _ _ rfl rfl hrn ?_)
        go_roundw
        case rel => exact ⟨m + 1, by go_num, by omega, by rw [HST.out, List.append_nil]; exact HROW.out, HB.out⟩
        case measure => simp [intOf]; omega
      | some ad =>
        have hcell : ∀ j u, (flatVE es)[j]? = some u → wo.cell? (ad.add j) = some u := fun j u hj => by
          obtain ⟨i, x, h1, h2⟩ := flatVE_at es j u hj
          obtain ⟨b', off', e, _, c1, c2⟩ := hE.at_ h1
          cases e
          rcases h2 with ⟨rfl, rfl⟩ | ⟨rfl, rfl⟩
          · rw [add_ent]; exact c1
          · rw [add_ent, ← Nat.add_assoc]; exact c2
        have HCL := Lib.hid hcell
        have hac : acc.length ≤ 1000 * m := hfm
        have h63 : acc.length + es.length ≤ maxLen := by unfold maxLen; omega
        clear hrow hx f0 hps hpw hst hacc hE hB hcell
        go_wp2_with fail
        refine HEO.out.mono ?_
        rintro o w1 ⟨rfl, hw1⟩
        obtain rfl := hw1
        go_wp2_with (at_builtin; refine wpList_append_own _ rfl _ _ 22 rfl w.heap.size 41 i0 (.agg #[.int .u64 0, .int .i64 0]) 2 16 Try.underlying22 hi hz0 hz1 hz2 rfl (by decide) _ acc.length (flatVE acc) rfl HROW.out ad es.length pc (flatVE es) rfl (flatVE_len es) HCL.out (flatVE_one es) h63 (by omega) hws ?_; intro v' w2 hown hgrow hnil; have HO : Hid (w2.ownsRow w.heap.size 41 2 v' (acc ++ es).length (flatVE (acc ++ es))) := Lib.hid (by rw [List.length_append, flatVE_append]; exact hown); have HB2 : Hid (Below w.heap.size w w2) := Lib.hid (HB.out.grown hgrow hws (fun j hj => (World.ownsRow.lt HROW.out j hj).1)); clear hown hgrow hnil)
        go_roundw
        case rel => exact ⟨m + 1, by go_num, by omega, by rw [HST.out]; exact HO.out, HB2.out⟩
        case measure => simp [intOf]; omega
    · obtain rfl : m = n := by omega
      rw [List.take_of_length_le (by rw [HN.out]; exact Nat.le_refl _)] at HROW hfm
      have hEo := EnsP.of_owns HROW.out
      obtain ⟨va, vc, hv⟩ := own_form HROW.out
      subst hv
      have HOF := Lib.hid (of_any va (flatL L).length vc (flatL L) wo HOK.out (by omega) hEo)
      clear hrow hB hEo
      go_wp2_with fail
      refine HOF.out.mono ?_
      rintro o w1 ⟨b, sv, rfl, hb, hps, hbe⟩
      have HPS := Lib.hid hps
      have HB2 := Lib.hid (HB.out.trans (hbe.mono HB.out.size))
      have HLE := Lib.hid (Nat.le_trans HB.out.size hb)
      clear hps hbe hb
      go_wp2_with fail
      go_ret
      exact ⟨b, sv, rfl, HLE.out, HPS.out, HB2.out⟩
end Go.Proofs.Ytpcbdjdmhemjdaa
