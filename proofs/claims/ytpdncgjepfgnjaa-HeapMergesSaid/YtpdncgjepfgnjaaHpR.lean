/- The document's own heap: Put, Of, Same. -/
import Derived.Test.YtpdncgjepfgnjaaHpT
namespace Go.Proofs.Ytpdncgjepfgnjaa
open Go.RowKit
set_option linter.unusedVariables false

theorem ordP : OrdP 9 Prod.fst := ⟨enters_of Try.func9 (by kernel_rfl) rfl, fun x y w => beforeP x y w⟩
/-- A thing is put behind those that don't stand behind it. -/
def insD : List (Int × Int) → Int × Int → List (Int × Int)
  | [], x => [x]
  | y :: ys, x => if x.1 < y.1 then x :: y :: ys else y :: insD ys x
theorem insD_len (x : Int × Int) : ∀ l, (insD l x).length = l.length + 1
  | [] => rfl
  | y :: ys => by
    unfold insD
    split
    · rfl
    · simp [insD_len x ys]
theorem insS_map (x : Int × Int) (n : Int) : ∀ S : List ((Int × Int) × Int), (insS Prod.fst S (x, n)).map Prod.fst = insD (S.map Prod.fst) x
  | [] => rfl
  | y :: ys => by
    unfold insS
    rw [List.map_cons]
    unfold insD
    by_cases h : x.1 < y.1.1
    · rw [if_pos h, if_pos h]; rfl
    · rw [if_neg h, if_neg h, List.map_cons, insS_map x n ys]
def ofD (xs : List (Int × Int)) : List (Int × Int) := xs.foldl insD []
theorem ofD_snoc (xs : List (Int × Int)) (x : Int × Int) : ofD (xs ++ [x]) = insD (ofD xs) x := by unfold ofD; rw [List.foldl_append]; rfl
theorem ofD_of : ∀ (n : Nat) (xs : List (Int × Int)), xs.length = n → (ofS Prod.fst xs).map Prod.fst = ofD xs
  | 0, xs, h => by obtain rfl := List.eq_nil_of_length_eq_zero h; rfl
  | n + 1, xs, h => by
    obtain ⟨ys, y, rfl⟩ : ∃ ys y, xs = ys ++ [y] := ⟨xs.dropLast, xs.getLast (by intro e; rw [e] at h; cases h), (List.dropLast_concat_getLast _).symm⟩
    rw [List.length_append, List.length_singleton] at h
    rw [ofS_snoc, insS_map, ofD_of n ys (by omega), ofD_snoc]
theorem ofD_len (xs : List (Int × Int)) : (ofD xs).length = xs.length := by
  rw [← ofD_of _ xs rfl, List.length_map, ofS_len]

theorem own_empty (w : World) (e : TypeId) (size base : Nat) (hb : base ≤ w.heap.size) : (w.alloc (.cells #[] e)).ownsRow base e size (.slice (some ⟨w.heap.size, 0, none⟩) 0 0) 0 [] :=
  ⟨by simp, .inr ⟨w.heap.size, 0, #[], rfl, hb, World.alloc_heap_new w _, Nat.le_refl _, Nat.zero_le _, by simp, by simp⟩⟩
theorem own_form {w : World} {base e size n : Nat} {v : Value} {xs : List Value} (h : w.ownsRow base e size v n xs) : ∃ a c, v = .slice a n c := by
  rcases h.2 with ⟨rfl, e⟩ | ⟨g, cap, cur, e, _⟩
  · exact ⟨none, 0, by rw [e]⟩
  · exact ⟨_, _, e⟩

theorem own_formc {w : World} {base e size n : Nat} {v : Value} {xs : List Value} (h : w.ownsRow base e size v n xs) : ∃ a c, v = .slice a n c ∧ n ≤ c := by
  rcases h.2 with ⟨rfl, e⟩ | ⟨g, cap, cur, e, _, _, hn, _⟩
  · exact ⟨none, 0, by rw [e], by omega⟩
  · exact ⟨_, _, e, hn⟩
theorem PrsP.take {n : Nat} {W : World} {a : Option Addr} {m c k : Nat} {xs : List (Int × Int)} (h : PrsP n W (.slice a m c) xs) (hk : k ≤ m) : PrsP n W (.slice a k c) (xs.take k) := by
  rcases h with ⟨rfl, a', c', e⟩ | ⟨b, off, cap, e, hb, hcap, hc⟩
  · cases e
    obtain rfl : k = 0 := by omega
    exact .inl ⟨by simp, _, _, rfl⟩
  · cases e
    have hl : (xs.take k).length = k := by simp; omega
    refine .inr ⟨b, off, c, by rw [hl], hb, by rw [hl]; omega, fun j x hj => ?_⟩
    rw [List.getElem?_take] at hj
    split at hj
    · exact hc j x hj
    · cases hj
/-- A row that the call itself made, beside a box that stays. -/
structure RowB (w : World) (k u : Int) (v : Value) (out : List (Int × Int)) (W : World) : Prop where
  row : W.ownsRow (w.heap.size + 1) 27 2 v out.length (flatVP out)
  bel : Below w.heap.size w W
  box : W.heap[w.heap.size]? = some (.cells #[.int .i64 k, .int .i64 u] 27 (0, 0))
theorem RowB.start (w : World) (k u : Int) : RowB w k u (.slice (some ⟨w.heap.size + 1, 0, none⟩) 0 0) [] ((w.alloc (.cells #[.int .i64 k, .int .i64 u] 27)).alloc (.cells #[] 27)) := by
  refine ⟨?_, ((Below.refl _ _).alloc (Nat.le_refl _) _).alloc (by simp) _, (heap_alloc_old' _ _ _ (by simp)).trans (World.alloc_heap_new w _)⟩
  have h := own_empty (w.alloc (.cells #[.int .i64 k, .int .i64 u] 27)) 27 2 (w.heap.size + 1) (by simp)
  rw [World.size_alloc] at h
  exact h
theorem RowB.drew {w : World} {k u : Int} {v : Value} {out : List (Int × Int)} {W : World} (h : RowB w k u v out W) : RowB w k u v out W.drew := ⟨h.row.drew, h.bel.drew, h.box⟩
theorem RowB.drewN {w : World} {k u : Int} {v : Value} {out : List (Int × Int)} {W : World} (h : RowB w k u v out W) (q : Nat) : RowB w k u v out (W.drewN q) := ⟨h.row, ⟨h.bel.os, h.bel.tape, h.bel.output, h.bel.size, h.bel.block⟩, h.box⟩
theorem RowB.app {w : World} {k u : Int} {v : Value} {out : List (Int × Int)} {W : World} (h : RowB w k u v out W) (x y : Int) (o : Obj) {v' : Value} {w1 : World} (hown : w1.ownsRow (w.heap.size + 1) 27 2 v' (out.length + 1) (flatVP out ++ [.int .i64 x, .int .i64 y])) (hg : (W.alloc o).grownBy w1 v.ownBlock) : RowB w k u v' (out ++ [(x, y)]) w1 := by
  have hlt := World.ownsRow.lt h.row
  have hb := (Array.getElem?_eq_some_iff.1 h.box).1
  refine ⟨by rw [List.length_append, flatVP_app]; exact hown, (h.bel.alloc (by have := h.bel.size; omega) _).grown hg (by have := h.bel.size; simp; omega) (fun j hj => by have := (hlt j hj).1; omega), ?_⟩
  rw [hg.block _ (by simp; omega) (fun e => by have := (hlt _ e.symm).1; omega), heap_alloc_old' W o _ hb]
  exact h.box

set_option maxRecDepth 100000 in
set_option maxHeartbeats 4000000 in
theorem refPut_any (a : Option Addr) (n c : Nat) (l : List (Int × Int)) (x : Int × Int) (hl : l.length ≤ 1048576) (w : World) (hs : PrsP w.heap.size w (.slice a n c) l) :
    Calls Try.prog 11 #[.slice a n c, valP x] w fun e w' => ∃ v, e = .returned v ∧ w'.ownsRow w.heap.size 27 2 v (l.length + 1) (flatVP (insD l x)) ∧ Below w.heap.size w w' := by
  obtain ⟨i0, hi, hz0, hz1, hz2⟩ := info_parts infoTP
  obtain ⟨k, u⟩ := x
  obtain rfl := hs.len
  have HS := Lib.hid hs
  have hil := insD_len (k, u) l
  have HIL := Lib.hid hil
  obtain ⟨n, hn⟩ : ∃ n, l.length = n := ⟨_, rfl⟩
  have HN := Lib.hid hn
  rw [hn] at hl ⊢
  clear hs hn hil
  unfold valP
  go_enter Try.func11, Try.ntmps11
  go_wp2
  go_loopw [5, 6, 7] (fun v d i wr => ∃ (m : Nat) (out : List (Int × Int)) (b : Bool), d = .bool b ∧ i = .int .i64 m ∧ m ≤ n ∧ RowB w k u v out wr ∧ out ++ (if b = true then l.drop m else insD (l.drop m) (k, u)) = insD l (k, u)) (fun _ _ i _ => n - (intOf i).toNat)
  case atStart => exact ⟨0, [], false, rfl, rfl, Nat.zero_le _, RowB.start w k u, rfl⟩
  case round =>
    obtain ⟨m, out, b, rfl, rfl, hm, hR, hout⟩ := hrel
    have hol : out.length ≤ 1048577 := by
      have h1 := congrArg List.length hout
      rw [List.length_append, HIL.out] at h1
      have := HN.out
      omega
    have c0 := cell_of_row wr _ 0 _ _ _ hR.box
    have c1 := cell_of_row wr _ 1 _ _ _ hR.box
    simp at c0 c1
    by_cases hlt : m < n
    · obtain ⟨⟨y, z⟩, hy⟩ : ∃ y, l[m]? = some y := ⟨_, List.getElem?_eq_getElem (by rw [HN.out]; exact hlt)⟩
      obtain ⟨g, off, rfl, hg, f0, f1⟩ := HS.out.at_ hy
      have d0 := (hR.bel.cell (p := ⟨g, off + m * 2, none⟩) hg).trans f0
      have d1 := (hR.bel.cell (p := ⟨g, off + m * 2 + 1, none⟩) hg).trans f1
      have hd : l.drop m = (y, z) :: l.drop (m + 1) := by
        obtain ⟨hq, e⟩ := List.getElem?_eq_some_iff.1 hy
        rw [List.drop_eq_getElem_cons hq, e]
      simp only at d0 d1 f0 f1
      have b1 : (0 : Int) ≤ m := by omega
      have b2 : (m : Int) < n := by omega
      cases b with
      | true =>
        have HO : Hid ((out ++ [(y, z)]) ++ l.drop (m + 1) = insD l (k, u)) := Lib.hid (by rw [List.append_assoc]; have h := hout; rw [if_pos rfl, hd] at h; exact h)
        have HRR := Lib.hid hR
        clear hout hy hd hR
        go_upto_region 6 with fail
        go_quiet (fail)
        have HRQ := Lib.hid (HRR.out.drewN nq)
        have e0 : (wr.drewN nq).cell? ⟨g, off + m * 2, none⟩ = some (.int .i64 y) := d0
        have e1 : (wr.drewN nq).cell? ⟨g, off + m * 2 + 1, none⟩ = some (.int .i64 z) := d1
        have e2 : (wr.drewN nq).cell? ⟨w.heap.size, 0, none⟩ = some (.int .i64 k) := c0
        have e3 : (wr.drewN nq).cell? ⟨w.heap.size, 1, none⟩ = some (.int .i64 u) := c1
        obtain ⟨wq, hq⟩ : ∃ wq, wr.drewN nq = wq := ⟨_, rfl⟩
        rw [hq] at HRQ e0 e1 e2 e3 ⊢
        clear hq d0 d1 c0 c1
        go_wp2_with (at_builtin; refine wpList_append_own_at _ rfl _ _ 29 rfl (w.heap.size + 1) 27 i0 (.agg #[.int .i64 0, .int .i64 0]) 2 16 Try.underlying29 hi hz0 hz1 hz2 rfl (by decide) _ _ _ rfl (HRQ.out.row.alloc _) ⟨wq.heap.size, 0, none⟩ 1 1 [.int .i64 y, .int .i64 z] rfl rfl (World.news_of_block (World.alloc_heap_new wq _)) (by simp [Value.oneCell']) (by unfold maxLen; omega) (by omega) (by have := HRQ.out.bel.size; have := (Array.getElem?_eq_some_iff.1 HRQ.out.box).1; simp; omega) ?_; intro v' A hown' hgrow _ _; have HA := Lib.hid (HRQ.out.app y z _ hown' hgrow); clear hown' hgrow)
        go_roundw
        case rel => exact ⟨m + 1, out ++ [(y, z)], true, rfl, by go_num, by omega, HA.out, by rw [if_pos rfl]; exact HO.out⟩
        case measure => simp [intOf]; omega
      | false =>
        cases hc : decide (k < y) with
        | true =>
          have HO : Hid ((out ++ [(k, u)] ++ [(y, z)]) ++ l.drop (m + 1) = insD l (k, u)) := Lib.hid (by
            have h := hout
            rw [if_neg (by decide), hd] at h
            rw [show insD ((y, z) :: l.drop (m + 1)) (k, u) = (k, u) :: (y, z) :: l.drop (m + 1) from if_pos (of_decide_eq_true hc)] at h
            rw [List.append_assoc, List.append_assoc]; exact h)
          have HRR := Lib.hid hR
          clear hout hy hd hR
          go_upto_region 6 with fail
          go_quiet (fail)
          have HRQ := Lib.hid (HRR.out.drewN nq)
          have e0 : (wr.drewN nq).cell? ⟨g, off + m * 2, none⟩ = some (.int .i64 y) := d0
          have e1 : (wr.drewN nq).cell? ⟨g, off + m * 2 + 1, none⟩ = some (.int .i64 z) := d1
          have e2 : (wr.drewN nq).cell? ⟨w.heap.size, 0, none⟩ = some (.int .i64 k) := c0
          have e3 : (wr.drewN nq).cell? ⟨w.heap.size, 1, none⟩ = some (.int .i64 u) := c1
          obtain ⟨wq, hq⟩ : ∃ wq, wr.drewN nq = wq := ⟨_, rfl⟩
          rw [hq] at HRQ e0 e1 e2 e3 ⊢
          clear hq d0 d1 c0 c1
          have hl2 : (out ++ [(k, u)]).length ≤ 1048578 := by simp; omega
          go_wp2_with (first | (at_builtin; refine wpList_append_own_at _ rfl _ _ 29 rfl (w.heap.size + 1) 27 i0 (.agg #[.int .i64 0, .int .i64 0]) 2 16 Try.underlying29 hi hz0 hz1 hz2 rfl (by decide) _ _ _ rfl (HRQ.out.row.alloc _) ⟨wq.heap.size, 0, none⟩ 1 1 [.int .i64 k, .int .i64 u] rfl rfl (World.news_of_block (World.alloc_heap_new wq _)) (by simp [Value.oneCell']) (by unfold maxLen; omega) (by omega) (by have := HRQ.out.bel.size; have := (Array.getElem?_eq_some_iff.1 HRQ.out.box).1; simp; omega) ?_; intro v' A hown' hgrow _ _; have HA := Lib.hid (HRQ.out.app k u _ hown' hgrow); clear hown' hgrow; have t0 := (HA.out.bel.cell (p := ⟨g, off + m * 2, none⟩) hg).trans f0; have t1 := (HA.out.bel.cell (p := ⟨g, off + m * 2 + 1, none⟩) hg).trans f1) | (at_builtin; refine wpList_append_own_at _ rfl _ _ 29 rfl (w.heap.size + 1) 27 i0 (.agg #[.int .i64 0, .int .i64 0]) 2 16 Try.underlying29 hi hz0 hz1 hz2 rfl (by decide) _ _ _ rfl (HA.out.row.alloc _) ⟨A.heap.size, 0, none⟩ 1 1 [.int .i64 y, .int .i64 z] rfl rfl (World.news_of_block (World.alloc_heap_new A _)) (by simp [Value.oneCell']) (by unfold maxLen; omega) (by omega) (by have := HA.out.bel.size; have := (Array.getElem?_eq_some_iff.1 HA.out.box).1; simp; omega) ?_; intro v' A2 hown' hgrow _ _; have HA2 := Lib.hid (HA.out.app y z _ hown' hgrow); clear hown' hgrow))
          go_roundw
          case rel => exact ⟨m + 1, out ++ [(k, u)] ++ [(y, z)], true, rfl, by go_num, by omega, HA2.out, by rw [if_pos rfl]; exact HO.out⟩
          case measure => simp [intOf]; omega
        | false =>
          have HO : Hid ((out ++ [(y, z)]) ++ insD (l.drop (m + 1)) (k, u) = insD l (k, u)) := Lib.hid (by
            have h := hout
            rw [if_neg (by decide), hd] at h
            rw [show insD ((y, z) :: l.drop (m + 1)) (k, u) = (y, z) :: insD (l.drop (m + 1)) (k, u) from if_neg (of_decide_eq_false hc)] at h
            rw [List.append_assoc]; exact h)
          have HRR := Lib.hid hR
          clear hout hy hd hR
          go_upto_region 6 with fail
          go_quiet (fail)
          have HRQ := Lib.hid (HRR.out.drewN nq)
          have e0 : (wr.drewN nq).cell? ⟨g, off + m * 2, none⟩ = some (.int .i64 y) := d0
          have e1 : (wr.drewN nq).cell? ⟨g, off + m * 2 + 1, none⟩ = some (.int .i64 z) := d1
          have e2 : (wr.drewN nq).cell? ⟨w.heap.size, 0, none⟩ = some (.int .i64 k) := c0
          have e3 : (wr.drewN nq).cell? ⟨w.heap.size, 1, none⟩ = some (.int .i64 u) := c1
          obtain ⟨wq, hq⟩ : ∃ wq, wr.drewN nq = wq := ⟨_, rfl⟩
          rw [hq] at HRQ e0 e1 e2 e3 ⊢
          clear hq d0 d1 c0 c1
          go_wp2_with (at_builtin; refine wpList_append_own_at _ rfl _ _ 29 rfl (w.heap.size + 1) 27 i0 (.agg #[.int .i64 0, .int .i64 0]) 2 16 Try.underlying29 hi hz0 hz1 hz2 rfl (by decide) _ _ _ rfl (HRQ.out.row.alloc _) ⟨wq.heap.size, 0, none⟩ 1 1 [.int .i64 y, .int .i64 z] rfl rfl (World.news_of_block (World.alloc_heap_new wq _)) (by simp [Value.oneCell']) (by unfold maxLen; omega) (by omega) (by have := HRQ.out.bel.size; have := (Array.getElem?_eq_some_iff.1 HRQ.out.box).1; simp; omega) ?_; intro v' A hown' hgrow _ _; have HA := Lib.hid (HRQ.out.app y z _ hown' hgrow); clear hown' hgrow)
          go_roundw
          case rel => exact ⟨m + 1, out ++ [(y, z)], false, rfl, by go_num, by omega, HA.out, by rw [if_neg (by decide)]; exact HO.out⟩
          case measure => simp [intOf]; omega
    · obtain rfl : m = n := by omega
      have hdr : l.drop m = [] := List.drop_of_length_le (by have := HN.out; omega)
      rw [hdr] at hout
      have HRR := Lib.hid hR
      cases b with
      | true =>
        rw [if_pos rfl, List.append_nil] at hout
        have HO := Lib.hid hout
        clear hout hR
        go_wp2
        go_ret
        have h := HRR.out.row
        have h2 := HIL.out
        rw [HN.out, ← HO.out] at h2
        rw [h2, HO.out] at h
        exact ⟨_, rfl, own_mono h (by omega), HRR.out.bel⟩
      | false =>
        rw [if_neg (by decide)] at hout
        have HO : Hid (out ++ [(k, u)] = insD l (k, u)) := Lib.hid hout
        clear hout hR
        go_wp2_with (at_builtin; refine wpList_append_own_at _ rfl _ _ 29 rfl (w.heap.size + 1) 27 i0 (.agg #[.int .i64 0, .int .i64 0]) 2 16 Try.underlying29 hi hz0 hz1 hz2 rfl (by decide) _ _ _ rfl (HRR.out.row.alloc _) ⟨wr.heap.size, 0, none⟩ 1 1 [.int .i64 k, .int .i64 u] rfl rfl (World.news_of_block (World.alloc_heap_new wr _)) (by simp [Value.oneCell']) (by unfold maxLen; omega) (by omega) (by have := HRR.out.bel.size; have := (Array.getElem?_eq_some_iff.1 HRR.out.box).1; simp; omega) ?_; intro v' A hown' hgrow _ _; have HA := Lib.hid (HRR.out.app k u _ hown' hgrow); clear hown' hgrow)
        go_ret
        have h := HA.out.row
        have h2 := HIL.out
        rw [HN.out, ← HO.out] at h2
        rw [h2, HO.out] at h
        exact ⟨_, rfl, own_mono h (by omega), HA.out.bel⟩

set_option maxRecDepth 100000 in
set_option maxHeartbeats 4000000 in
theorem refOf_any (a : Option Addr) (n c : Nat) (l : List (Int × Int)) (hl : l.length ≤ 1048576) (w : World) (hs : PrsP w.heap.size w (.slice a n c) l) :
    Calls Try.prog 17 #[.slice a n c] w fun e w' => ∃ v, e = .returned v ∧ w'.ownsRow w.heap.size 27 2 v l.length (flatVP (ofD l)) ∧ Below w.heap.size w w' := by
  obtain rfl := hs.len
  have HS := Lib.hid hs
  obtain ⟨n, hn⟩ : ∃ n, l.length = n := ⟨_, rfl⟩
  have HN := Lib.hid hn
  rw [hn] at hl ⊢
  clear hs hn
  go_enter Try.func17, Try.ntmps17
  go_wp2
  go_loopw [3, 4] (fun v i wr => ∃ m : Nat, i = .int .i64 m ∧ m ≤ n ∧ wr.ownsRow w.heap.size 27 2 v m (flatVP (ofD (l.take m))) ∧ Below w.heap.size w wr) (fun _ i _ => n - (intOf i).toNat)
  case atStart => exact ⟨0, rfl, Nat.zero_le _, own_empty _ _ _ _ (Nat.le_refl _), (Below.refl _ _).alloc (Nat.le_refl _) _⟩
  case round =>
    obtain ⟨m, rfl, hm, hrow, hB⟩ := hrel
    by_cases hlt : m < n
    · obtain ⟨⟨y, z⟩, hy⟩ : ∃ y, l[m]? = some y := ⟨_, List.getElem?_eq_getElem (by rw [HN.out]; exact hlt)⟩
      obtain ⟨g, off, rfl, hg, f0, f1⟩ := HS.out.at_ hy
      have d0 := (hB.cell (p := ⟨g, off + m * 2, none⟩) hg).trans f0
      have d1 := (hB.cell (p := ⟨g, off + m * 2 + 1, none⟩) hg).trans f1
      simp only at d0 d1
      have b1 : (0 : Int) ≤ m := by omega
      have b2 : (m : Int) < n := by omega
      obtain ⟨a1, c1, rfl⟩ := own_form hrow
      have hol : (ofD (l.take m)).length = m := by rw [ofD_len]; simp; have := HN.out; omega
      have htk : ofD (l.take (m + 1)) = insD (ofD (l.take m)) (y, z) := by rw [take_snoc hy, ofD_snoc]
      have hp : PrsP wr.heap.size wr (.slice a1 m c1) (ofD (l.take m)) := PrsP.of_owns (by rw [hol]; exact hrow)
      have HP := Lib.hid (refPut_any a1 m c1 (ofD (l.take m)) (y, z) (by rw [hol]; omega) wr hp)
      rw [hol, ← htk] at HP
      have HB := Lib.hid hB
      clear hrow hB hol htk hp hy f0 f1
      unfold valP at HP
      go_wp2_with (go_at_call 11; refine HP.out.mono ?_; rintro e w1 ⟨v1, rfl, h1, b1'⟩; have H1 := Lib.hid h1; have B1 := Lib.hid b1'; clear h1 b1')
      go_roundw
      case rel => exact ⟨m + 1, by go_num, by omega, own_mono H1.out HB.out.size, HB.out.trans (B1.out.mono HB.out.size)⟩
      case measure => simp [intOf]; omega
    · obtain rfl : m = n := by omega
      rw [show l.take m = l from List.take_of_length_le (by have := HN.out; omega)] at hrow
      have HR := Lib.hid hrow
      have HB := Lib.hid hB
      clear hrow hB
      go_wp2
      go_ret
      exact ⟨_, rfl, HR.out, HB.out⟩

set_option maxRecDepth 100000 in
set_option maxHeartbeats 4000000 in
theorem refSame_any (a a' : Option Addr) (n n' c c' : Nat) (l : List (Int × Int)) (hl : l.length ≤ 1073741824) (w : World) (hs : PrsP w.heap.size w (.slice a n c) l) (hs' : PrsP w.heap.size w (.slice a' n' c') l) :
    Calls Try.prog 16 #[.slice a n c, .slice a' n' c'] w fun e w' => e = .returned (.bool true) ∧ Below w.heap.size w w' := by
  obtain rfl := hs.len
  obtain rfl := hs'.len
  have HS := Lib.hid hs
  have HS' := Lib.hid hs'
  obtain ⟨n, hn⟩ : ∃ n, l.length = n := ⟨_, rfl⟩
  have HN := Lib.hid hn
  rw [hn] at hl ⊢
  clear hs hs' hn
  go_enter Try.func16, Try.ntmps16
  go_wp2
  go_loopw [5] (fun i wr => ∃ m : Nat, i = .int .i64 m ∧ m ≤ n ∧ Below w.heap.size w wr) (fun i _ => n - (intOf i).toNat)
  case atStart => exact ⟨0, rfl, Nat.zero_le _, Below.refl _ _⟩
  case round =>
    obtain ⟨m, rfl, hm, hB⟩ := hrel
    have HB := Lib.hid hB
    by_cases hlt : m < n
    · obtain ⟨⟨y, z⟩, hy⟩ : ∃ y, l[m]? = some y := ⟨_, List.getElem?_eq_getElem (by rw [HN.out]; exact hlt)⟩
      obtain ⟨g, off, rfl, hg, f0, f1⟩ := HS.out.at_ hy
      obtain ⟨g', off', rfl, hg', f0', f1'⟩ := HS'.out.at_ hy
      have d0 := (hB.cell (p := ⟨g, off + m * 2, none⟩) hg).trans f0
      have d1 := (hB.cell (p := ⟨g, off + m * 2 + 1, none⟩) hg).trans f1
      have d2 := (hB.cell (p := ⟨g', off' + m * 2, none⟩) hg').trans f0'
      have d3 := (hB.cell (p := ⟨g', off' + m * 2 + 1, none⟩) hg').trans f1'
      simp only at d0 d1 d2 d3
      have b1 : (0 : Int) ≤ m := by omega
      have b2 : (m : Int) < n := by omega
      clear hB hy f0 f1 f0' f1'
      go_upto_region 6 with fail
      go_quiet (fail)
      have HB2 : Hid (Below w.heap.size w (wr.drewN nq)) := Lib.hid ⟨HB.out.os, HB.out.tape, HB.out.output, HB.out.size, HB.out.block⟩
      obtain ⟨wq, hq⟩ : ∃ wq, wr.drewN nq = wq := ⟨_, rfl⟩
      rw [hq] at HB2 ⊢
      clear hq d0 d1 d2 d3
      go_wp2
      go_roundw
      case rel => exact ⟨m + 1, by go_num, by omega, HB2.out⟩
      case measure => simp [intOf]; omega
    · obtain rfl : m = n := by omega
      clear hB
      go_wp2
      go_ret
      exact ⟨rfl, HB.out⟩

end Go.Proofs.Ytpdncgjepfgnjaa
