/- A table's nodes told one by one from a key on. -/
import Derived.Test.YtchnjafcnigllaaTabG
namespace Go.Proofs.Ytchnjafcnigllaa
open Go.RowKit
set_option linter.unusedVariables false
attribute [local go_sem] Oper.semAt_some

/-- The keys that are not below k. -/
def fromL (k : Int) (t : TrN) : KV := t.list.filter fun x => !(ltN x.1 k)
theorem from_low {k x v : Int} {l r : TrN} (hr : Tr.Rising ltN (Tr.node x v l r).list) (h : ltN x k = true) : fromL k (.node x v l r) = fromL k r := by
  obtain ⟨_, _, h3, _, _⟩ := Tr.rising_parts ordN hr
  unfold fromL
  simp only [Tr.list, List.filter_append, List.filter_cons]
  rw [List.filter_eq_nil_iff.2 (fun y hy => by rw [ordN.trans _ _ _ (h3 y hy) h]; decide), h]
  rfl
theorem from_high {k x v : Int} {l r : TrN} (hr : Tr.Rising ltN (Tr.node x v l r).list) (h : ltN x k = false) : fromL k (.node x v l r) = fromL k l ++ (x, v) :: walkL false r := by
  obtain ⟨_, _, _, h4, _⟩ := Tr.rising_parts ordN hr
  unfold fromL
  simp only [Tr.list, List.filter_append, List.filter_cons]
  rw [h, walk_rise]
  have hge : ∀ y : Int × Int, x ≤ y.1 → (!ltN y.1 k) = true := fun y hy => by
    unfold ltN at h ⊢
    simp at h ⊢
    omega
  rw [List.filter_eq_self.2 (fun y (hy : y ∈ r.list) => hge y (by have := h4 y hy; unfold ltN at this; simp at this; omega)), if_pos (show (!false) = true from rfl)]

set_option maxRecDepth 100000 in
set_option maxHeartbeats 16000000 in
theorem fromN (k : Int) {σ : Type} {W0 : World} {rest : σ → KV} {J : σ → World → Prop} {Jm : σ → Int × Int → World → Prop} {Jx : Code → World → Prop} {Af : σ → σ → Prop} {lx m B : Nat} {Rd : World → Prop} {Dn : Code → World → Prop} (hC : EachC W0 rest J Jm Af)
    (hRd : ∀ A A', SameRec B A A' → Rd A → Rd A') (hY : ∀ s x A, Rd A → Jm s x A → YieldAt Fence.wide m Try.prog lx #[.int .i64 x.1, .int .i64 x.2] A fun e A' => (e = .returned (.bool true) ∧ Rd A' ∧ ∃ s', Af s s' ∧ J s' A') ∨ (e = .returned (.bool false) ∧ ∃ c, Dn c A' ∧ Jx c A')) :
    ∀ (t : TrN) (p : Value) (R : KV) (s : σ) (W : World), Tr.Rising ltN t.list → AtN W0 t p → J s W → Rd W → rest s = fromL k t ++ R → Calls Try.prog 49 #[p, .int .i64 k, .func (.yield lx) #[] #[]] W fun e W' => (e = .returned (.bool true) ∧ Rd W' ∧ ∃ s', rest s' = R ∧ J s' W') ∨ (e = .returned (.bool false) ∧ ∃ c, Dn c W' ∧ Jx c W')
  | .nil, p, R, s, W, hri, h, hJ, hR, hr => by
    obtain rfl := h
    have hr : rest s = R := hr
    have HJ := Lib.hid hJ
    have HRD := Lib.hid hR
    clear hC hY hRd hJ hR
    refine (callsIn_wide (n := 2)).1 ?_
    refine callsIn_of_wp Try.func49 rfl trivial ?_ rfl
    simp only [Try.ntmps49, List.size_toArray, List.length_cons, List.length_nil, Nat.reduceAdd, Nat.reduceSub, Array.replicate_succ, Array.replicate_zero, List.push_toArray, List.append_toArray, List.nil_append, List.cons_append]
    gi_wp2
    refine bodyPost_ret (results_tmp rfl _ _ _) rfl ?_
    exact .inl ⟨rfl, HRD.out, s, hr, HJ.out⟩
  | .node x v l r, p, R, s, W, hri, h, hJ, hR, hr => by
    obtain ⟨g, la, ra, rfl, hb, hl, hrr, _, _, _, _, _⟩ := h.cells
    have hparts := Tr.rising_parts ordN hri
    have hce : ∀ A, StayN W0 A → A.cell? ⟨g, 0, none⟩ = some (.int .i64 x) ∧ A.cell? ⟨g, 1, none⟩ = some (.int .i64 v) ∧ A.cell? ⟨g, 3, none⟩ = some (.pointer la) ∧ A.cell? ⟨g, 4, none⟩ = some (.pointer ra) := fun A hA => ⟨cell_of_row A g 0 _ _ _ (hA g _ hb), cell_of_row A g 1 _ _ _ (hA g _ hb), cell_of_row A g 3 _ _ _ (hA g _ hb), cell_of_row A g 4 _ _ _ (hA g _ hb)⟩
    obtain ⟨k0, k1, k3, k4⟩ := hce W (hC.stay _ _ hJ)
    have HL := Lib.hid (lessN x k W)
    cases hxk : ltN x k with
    | true =>
      rw [hxk] at HL
      rw [from_low hri hxk] at hr
      have HI := Lib.hid (fromN k hC hRd hY r _ R s W hparts.2.1 hrr hJ hR hr)
      clear hC hY hRd hJ hR h hb hl hrr hce hr hri hparts k1 k3
      refine (callsIn_wide (n := 2)).1 ?_
      refine callsIn_of_wp Try.func49 rfl trivial ?_ rfl
      simp only [Try.ntmps49, List.size_toArray, List.length_cons, List.length_nil, Nat.reduceAdd, Nat.reduceSub, Array.replicate_succ, Array.replicate_zero, List.push_toArray, List.append_toArray, List.nil_append, List.cons_append]
      gi_wp2_with fail
      refine ⟨trivial, ?_⟩
      refine (callsIn_wide.2 HL.out).mono ?_
      rintro e W1 ⟨rfl, rfl⟩
      gi_wp2_with fail
      refine ⟨trivial, ?_⟩
      refine (callsIn_wide.2 HI.out).mono ?_
      rintro e W4 (⟨rfl, hR4, s4, hr4, hJ4⟩ | ⟨rfl, c, hD, hX⟩)
      · gi_wp2
        refine bodyPost_ret (results_tmp rfl _ _ _) rfl ?_
        exact .inl ⟨rfl, hR4, s4, hr4, hJ4⟩
      · gi_wp2
        refine bodyPost_ret (results_tmp rfl _ _ _) rfl ?_
        exact .inr ⟨rfl, c, hD, hX⟩
    | false =>
      rw [hxk] at HL
      rw [from_high hri hxk, List.append_assoc, List.cons_append] at hr
      have IH1 := fromN k hC hRd hY l _ _ s W.drew hparts.1 hl (hC.drew s W hJ) (hRd W W.drew ⟨rfl, rfl⟩ hR) hr
      have IH2 := fun R s W => eachFalseN hC hRd hY r _ R s W hrr
      have HCE := Lib.hid hce
      have HKD := Lib.hid (hce W.drew (hC.stay _ _ (hC.drew s W hJ)))
      have HC := Lib.hid hC
      have HY := Lib.hid hY
      have HI1 := Lib.hid IH1
      clear hC hY hRd hJ hR h hb hl hrr hce IH1 hr hri hparts
      refine (callsIn_wide (n := 2)).1 ?_
      refine callsIn_of_wp Try.func49 rfl trivial ?_ rfl
      simp only [Try.ntmps49, List.size_toArray, List.length_cons, List.length_nil, Nat.reduceAdd, Nat.reduceSub, Array.replicate_succ, Array.replicate_zero, List.push_toArray, List.append_toArray, List.nil_append, List.cons_append]
      gi_wp2_with fail
      refine ⟨trivial, ?_⟩
      refine (callsIn_wide.2 HL.out).mono ?_
      rintro e W0' ⟨rfl, hW0⟩
      gi_wp2_with fail
      refine region_left (by kernel_rfl) ?_
      try rw [hW0]
      clear HL hW0 k0 k1 k3 k4
      obtain ⟨k0, k1, k3, k4⟩ := HKD.out
      obtain ⟨W1, hW1⟩ : ∃ W1, W.drew = W1 := ⟨_, rfl⟩
      rw [hW1] at HI1 k0 k1 k3 k4 ⊢
      clear hW1
      refine Left.stageL (fun _ => trivial) 0 7 (by decide) (by decide) (by decide +kernel) (by decide +kernel) (fun y => { tmps := #[.pointer (some ⟨g, 0, none⟩), .int .i64 k, .func (.yield lx) #[] #[], undef, undef, undef, .bool false, .pointer (some ⟨g, 0, none⟩), .bool false, .pointer (some ⟨g, 0, none⟩), .pointer (some ⟨g, 0, none⟩), .pointer (some ⟨g, 0, none⟩), .int .i64 x, .int .i64 k, .bool false, undef, undef, undef, undef, undef, undef, undef, undef, y 0, y 1, y 2, y 3, y 4, y 5, y 6, undef, undef, undef, undef, undef, undef, undef, undef, undef, undef, undef, undef, undef, undef, undef, undef, undef, undef, undef, undef, undef, undef], defers := [] }) (fun W => W1 = W) (fun i u W => match i with
        | 0 => u = .pointer (some ⟨g, 0, none⟩)
        | 1 => u = .pointer (some ⟨g, 0, none⟩)
        | 2 => u = .pointer (some ⟨g, 3, none⟩)
        | 3 => u = .pointer (some ⟨g, 3, none⟩)
        | 4 => u = .pointer la
        | 5 => u = .int .i64 k
        | 6 => u = .func (.yield lx) #[] #[]
        | _ => True) (fun A B => SameW A B) ?hC ?hV (fun _ => undef) ?hw ?h0 ?hop ?hend
      case hC => exact fun A B h e => h.trans e.eq
      case hV => exact fun i u A B h e => by obtain ⟨rfl⟩ := e; exact h
      case hw => exact rfl
      case h0 => exact fun i hi => by omega
      case hop =>
        simp only [AllDoIn, List.take_succ_cons, List.take_zero, List.drop_succ_cons, List.drop_zero, Nat.reduceAdd]
        refine ⟨?o0, ?o1, ?o2, ?o3, ?o4, ?o5, ?o6, trivial⟩
        all_goals rintro y W rfl hd Q hQ
        all_goals simp [Region.binds] at hd
        case o0 =>
          rw [if_pos (show Region.wanted _ _ = true from rfl)]
          clear hd
          gi_wp2
          first | exact ⟨_, rfl, ⟨rfl⟩, rfl⟩ | (refine ⟨.pointer (some ⟨g, 0, none⟩), ?_, ⟨rfl⟩, rfl⟩; simp [updV]) | (refine ⟨?_, ⟨rfl⟩⟩; simp [updV])
        case o1 =>
          rw [if_pos (show Region.wanted _ _ = true from rfl)]
          have e0 : y 0 = .pointer (some ⟨g, 0, none⟩) := by simp_all
          rw [e0]
          clear hd
          gi_wp2
          first | exact ⟨_, rfl, ⟨rfl⟩, rfl⟩ | (refine ⟨.pointer (some ⟨g, 0, none⟩), ?_, ⟨rfl⟩, rfl⟩; simp [updV, e0]) | (refine ⟨?_, ⟨rfl⟩⟩; simp [updV, e0])
        case o2 =>
          rw [if_pos (show Region.wanted _ _ = true from rfl)]
          have e1 : y 1 = .pointer (some ⟨g, 0, none⟩) := by simp_all
          rw [e1]
          clear hd
          gi_wp2
          first | exact ⟨_, rfl, ⟨rfl⟩, rfl⟩ | (refine ⟨.pointer (some ⟨g, 3, none⟩), ?_, ⟨rfl⟩, rfl⟩; simp [updV, e1]) | (refine ⟨?_, ⟨rfl⟩⟩; simp [updV, e1])
        case o3 =>
          rw [if_pos (show Region.wanted _ _ = true from rfl)]
          have e2 : y 2 = .pointer (some ⟨g, 3, none⟩) := by simp_all
          rw [e2]
          clear hd
          gi_wp2
          first | exact ⟨_, rfl, ⟨rfl⟩, rfl⟩ | (refine ⟨.pointer (some ⟨g, 3, none⟩), ?_, ⟨rfl⟩, rfl⟩; simp [updV, e2]) | (refine ⟨?_, ⟨rfl⟩⟩; simp [updV, e2])
        case o4 =>
          rw [if_pos (show Region.wanted _ _ = true from rfl)]
          have e3 : y 3 = .pointer (some ⟨g, 3, none⟩) := by simp_all
          rw [e3]
          clear hd
          gi_wp2
          first | exact ⟨_, rfl, ⟨rfl⟩, rfl⟩ | (refine ⟨.pointer la, ?_, ⟨rfl⟩, rfl⟩; simp [updV, e3]) | (refine ⟨?_, ⟨rfl⟩⟩; simp [updV, e3])
        case o5 =>
          rw [if_pos (show Region.wanted _ _ = true from rfl)]
          clear hd
          gi_wp2
          first | exact ⟨_, rfl, ⟨rfl⟩, rfl⟩ | (refine ⟨.int .i64 k, ?_, ⟨rfl⟩, rfl⟩; simp [updV]) | (refine ⟨?_, ⟨rfl⟩⟩; simp [updV])
        case o6 =>
          rw [if_pos (show Region.wanted _ _ = true from rfl)]
          clear hd
          gi_wp2
          first | exact ⟨_, rfl, ⟨rfl⟩, rfl⟩ | (refine ⟨.func (.yield lx) #[] #[], ?_, ⟨rfl⟩, rfl⟩; simp [updV]) | (refine ⟨?_, ⟨rfl⟩⟩; simp [updV])
      case hend =>
        rintro y W rfl hv
        have e0 : y 0 = .pointer (some ⟨g, 0, none⟩) := hv 0 (by decide)
        have e1 : y 1 = .pointer (some ⟨g, 0, none⟩) := hv 1 (by decide)
        have e2 : y 2 = .pointer (some ⟨g, 3, none⟩) := hv 2 (by decide)
        have e3 : y 3 = .pointer (some ⟨g, 3, none⟩) := hv 3 (by decide)
        have e4 : y 4 = .pointer la := hv 4 (by decide)
        have e5 : y 5 = .int .i64 k := hv 5 (by decide)
        have e6 : y 6 = .func (.yield lx) #[] #[] := hv 6 (by decide)
        clear hv
        rw [e0, e1, e2, e3, e4, e5, e6]
        clear e0 e1 e2 e3 e4 e5 e6
        refine Left.one (fun _ => trivial) 7 rfl (by decide +kernel) (by decide +kernel) ?_
        intro Q hQ
        rw [if_pos (show Region.wanted _ _ = true from rfl)]
        gi_wp2_with fail
        refine ⟨trivial, ?_⟩
        refine (callsIn_wide.2 HI1.out).mono ?_
        rintro e W2 (⟨rfl, hR2, s2, hr2, hJ2⟩ | ⟨rfl, c, hD, hX⟩)
        · gi_wp2
          obtain ⟨k0, k1, k3, k4⟩ := HCE.out W2 (HC.out.stay _ _ hJ2)
          obtain ⟨fn, tmps, assign, body, hy, hRR⟩ := HY.out s2 (x, v) W2 hR2 (HC.out.yield s2 W2 (x, v) _ hJ2 hr2)
          have HRR := Lib.hid (round_wide (m' := 1) hRR)
          have HR2 := Lib.hid hr2
          clear hRR hR2 hJ2 hr2
          refine Left.stageL (fun _ => trivial) 8 9 (by decide) (by decide) (by decide +kernel) (by decide +kernel) (fun y => { tmps := #[.pointer (some ⟨g, 0, none⟩), .int .i64 k, .func (.yield lx) #[] #[], undef, undef, undef, .bool false, .pointer (some ⟨g, 0, none⟩), .bool false, .pointer (some ⟨g, 0, none⟩), .pointer (some ⟨g, 0, none⟩), .pointer (some ⟨g, 0, none⟩), .int .i64 x, .int .i64 k, .bool false, undef, undef, undef, undef, undef, undef, undef, undef, .pointer (some ⟨g, 0, none⟩), .pointer (some ⟨g, 0, none⟩), .pointer (some ⟨g, 3, none⟩), .pointer (some ⟨g, 3, none⟩), .pointer la, .int .i64 k, .func (.yield lx) #[] #[], .bool true, y 8, undef, undef, undef, undef, undef, undef, undef, undef, undef, undef, undef, undef, undef, undef, undef, undef, undef, undef, undef, undef], defers := [] }) (fun W => W2 = W) (fun i u W => match i with
            | 8 => u = .bool true
            | _ => True) (fun A B => SameW A B) ?hC ?hV (fun _ => undef) ?hw ?h0 ?hop ?hend
          case hC => exact fun A B h e => h.trans e.eq
          case hV => exact fun i u A B h e => by obtain ⟨rfl⟩ := e; exact h
          case hw => exact rfl
          case h0 =>
            intro i hi
            have hi' : i = 0 ∨ i = 1 ∨ i = 2 ∨ i = 3 ∨ i = 4 ∨ i = 5 ∨ i = 6 ∨ i = 7 := by omega
            rcases hi' with rfl | rfl | rfl | rfl | rfl | rfl | rfl | rfl
            all_goals exact trivial
          case hop =>
            simp only [AllDoIn, List.take_succ_cons, List.take_zero, List.drop_succ_cons, List.drop_zero, Nat.reduceAdd]
            refine ⟨?o8, trivial⟩
            all_goals rintro y W rfl hd Q hQ
            all_goals simp [Region.binds] at hd
            case o8 =>
              rw [if_pos (show Region.wanted _ _ = true from rfl)]
              clear hd
              gi_wp2
              first | exact ⟨_, rfl, ⟨rfl⟩, rfl⟩ | (refine ⟨.bool true, ?_, ⟨rfl⟩, rfl⟩; simp [updV]) | (refine ⟨?_, ⟨rfl⟩⟩; simp [updV])
          case hend =>
            rintro y W rfl hv
            have e8 : y 8 = .bool true := hv 8 (by decide)
            clear hv
            rw [e8]
            clear e8
            refine Left.stageL (fun _ => trivial) 9 18 (by decide) (by decide) (by decide +kernel) (by decide +kernel) (fun y => { tmps := #[.pointer (some ⟨g, 0, none⟩), .int .i64 k, .func (.yield lx) #[] #[], undef, undef, undef, .bool false, .pointer (some ⟨g, 0, none⟩), .bool false, .pointer (some ⟨g, 0, none⟩), .pointer (some ⟨g, 0, none⟩), .pointer (some ⟨g, 0, none⟩), .int .i64 x, .int .i64 k, .bool false, undef, undef, undef, undef, undef, undef, undef, undef, .pointer (some ⟨g, 0, none⟩), .pointer (some ⟨g, 0, none⟩), .pointer (some ⟨g, 3, none⟩), .pointer (some ⟨g, 3, none⟩), .pointer la, .int .i64 k, .func (.yield lx) #[] #[], .bool true, .bool true, y 9, y 10, y 11, y 12, y 13, y 14, y 15, y 16, y 17, undef, undef, undef, undef, undef, undef, undef, undef, undef, undef, undef], defers := [] }) (fun W => W2 = W) (fun i u W => match i with
              | 9 => u = .func (.yield lx) #[] #[]
              | 10 => u = .pointer (some ⟨g, 0, none⟩)
              | 11 => u = .pointer (some ⟨g, 0, none⟩)
              | 12 => u = .pointer (some ⟨g, 0, none⟩)
              | 13 => u = .int .i64 x
              | 14 => u = .pointer (some ⟨g, 0, none⟩)
              | 15 => u = .pointer (some ⟨g, 0, none⟩)
              | 16 => u = .pointer (some ⟨g, 1, none⟩)
              | 17 => u = .int .i64 v
              | _ => True) (fun A B => SameW A B) ?hC ?hV (fun _ => undef) ?hw ?h0 ?hop ?hend
            case hC => exact fun A B h e => h.trans e.eq
            case hV => exact fun i u A B h e => by obtain ⟨rfl⟩ := e; exact h
            case hw => exact rfl
            case h0 =>
              intro i hi
              have hi' : i = 0 ∨ i = 1 ∨ i = 2 ∨ i = 3 ∨ i = 4 ∨ i = 5 ∨ i = 6 ∨ i = 7 ∨ i = 8 := by omega
              rcases hi' with rfl | rfl | rfl | rfl | rfl | rfl | rfl | rfl | rfl
              all_goals exact trivial
            case hop =>
              simp only [AllDoIn, List.take_succ_cons, List.take_zero, List.drop_succ_cons, List.drop_zero, Nat.reduceAdd]
              refine ⟨?o9, ?o10, ?o11, ?o12, ?o13, ?o14, ?o15, ?o16, ?o17, trivial⟩
              all_goals rintro y W rfl hd Q hQ
              all_goals simp [Region.binds] at hd
              case o9 =>
                rw [if_pos (show Region.wanted _ _ = true from rfl)]
                clear hd
                gi_wp2
                first | exact ⟨_, rfl, ⟨rfl⟩, rfl⟩ | (refine ⟨.func (.yield lx) #[] #[], ?_, ⟨rfl⟩, rfl⟩; simp [updV]) | (refine ⟨?_, ⟨rfl⟩⟩; simp [updV])
              case o10 =>
                rw [if_pos (show Region.wanted _ _ = true from rfl)]
                clear hd
                gi_wp2
                first | exact ⟨_, rfl, ⟨rfl⟩, rfl⟩ | (refine ⟨.pointer (some ⟨g, 0, none⟩), ?_, ⟨rfl⟩, rfl⟩; simp [updV]) | (refine ⟨?_, ⟨rfl⟩⟩; simp [updV])
              case o11 =>
                rw [if_pos (show Region.wanted _ _ = true from rfl)]
                have e10 : y 10 = .pointer (some ⟨g, 0, none⟩) := by simp_all
                rw [e10]
                clear hd
                gi_wp2
                first | exact ⟨_, rfl, ⟨rfl⟩, rfl⟩ | (refine ⟨.pointer (some ⟨g, 0, none⟩), ?_, ⟨rfl⟩, rfl⟩; simp [updV, e10]) | (refine ⟨?_, ⟨rfl⟩⟩; simp [updV, e10])
              case o12 =>
                rw [if_pos (show Region.wanted _ _ = true from rfl)]
                have e11 : y 11 = .pointer (some ⟨g, 0, none⟩) := by simp_all
                rw [e11]
                clear hd
                gi_wp2
                first | exact ⟨_, rfl, ⟨rfl⟩, rfl⟩ | (refine ⟨.pointer (some ⟨g, 0, none⟩), ?_, ⟨rfl⟩, rfl⟩; simp [updV, e11]) | (refine ⟨?_, ⟨rfl⟩⟩; simp [updV, e11])
              case o13 =>
                rw [if_pos (show Region.wanted _ _ = true from rfl)]
                have e12 : y 12 = .pointer (some ⟨g, 0, none⟩) := by simp_all
                rw [e12]
                clear hd
                gi_wp2
                first | exact ⟨_, rfl, ⟨rfl⟩, rfl⟩ | (refine ⟨.int .i64 x, ?_, ⟨rfl⟩, rfl⟩; simp [updV, e12]) | (refine ⟨?_, ⟨rfl⟩⟩; simp [updV, e12])
              case o14 =>
                rw [if_pos (show Region.wanted _ _ = true from rfl)]
                clear hd
                gi_wp2
                first | exact ⟨_, rfl, ⟨rfl⟩, rfl⟩ | (refine ⟨.pointer (some ⟨g, 0, none⟩), ?_, ⟨rfl⟩, rfl⟩; simp [updV]) | (refine ⟨?_, ⟨rfl⟩⟩; simp [updV])
              case o15 =>
                rw [if_pos (show Region.wanted _ _ = true from rfl)]
                have e14 : y 14 = .pointer (some ⟨g, 0, none⟩) := by simp_all
                rw [e14]
                clear hd
                gi_wp2
                first | exact ⟨_, rfl, ⟨rfl⟩, rfl⟩ | (refine ⟨.pointer (some ⟨g, 0, none⟩), ?_, ⟨rfl⟩, rfl⟩; simp [updV, e14]) | (refine ⟨?_, ⟨rfl⟩⟩; simp [updV, e14])
              case o16 =>
                rw [if_pos (show Region.wanted _ _ = true from rfl)]
                have e15 : y 15 = .pointer (some ⟨g, 0, none⟩) := by simp_all
                rw [e15]
                clear hd
                gi_wp2
                first | exact ⟨_, rfl, ⟨rfl⟩, rfl⟩ | (refine ⟨.pointer (some ⟨g, 1, none⟩), ?_, ⟨rfl⟩, rfl⟩; simp [updV, e15]) | (refine ⟨?_, ⟨rfl⟩⟩; simp [updV, e15])
              case o17 =>
                rw [if_pos (show Region.wanted _ _ = true from rfl)]
                have e16 : y 16 = .pointer (some ⟨g, 1, none⟩) := by simp_all
                rw [e16]
                clear hd
                gi_wp2
                first | exact ⟨_, rfl, ⟨rfl⟩, rfl⟩ | (refine ⟨.int .i64 v, ?_, ⟨rfl⟩, rfl⟩; simp [updV, e16]) | (refine ⟨?_, ⟨rfl⟩⟩; simp [updV, e16])
            case hend =>
              rintro y W rfl hv
              have e9 : y 9 = .func (.yield lx) #[] #[] := hv 9 (by decide)
              have e10 : y 10 = .pointer (some ⟨g, 0, none⟩) := hv 10 (by decide)
              have e11 : y 11 = .pointer (some ⟨g, 0, none⟩) := hv 11 (by decide)
              have e12 : y 12 = .pointer (some ⟨g, 0, none⟩) := hv 12 (by decide)
              have e13 : y 13 = .int .i64 x := hv 13 (by decide)
              have e14 : y 14 = .pointer (some ⟨g, 0, none⟩) := hv 14 (by decide)
              have e15 : y 15 = .pointer (some ⟨g, 0, none⟩) := hv 15 (by decide)
              have e16 : y 16 = .pointer (some ⟨g, 1, none⟩) := hv 16 (by decide)
              have e17 : y 17 = .int .i64 v := hv 17 (by decide)
              clear hv
              rw [e9, e10, e11, e12, e13, e14, e15, e16, e17]
              clear e9 e10 e11 e12 e13 e14 e15 e16 e17
              refine Left.one (fun _ => trivial) 18 rfl (by decide +kernel) (by decide +kernel) ?_
              intro Q hQ
              rw [if_pos (show Region.wanted _ _ = true from rfl)]
              gi_wp2_with fail
              refine HRR.out.mono ?_
              rintro e W3 (⟨rfl, hR3, s3, hA3, hJ3⟩ | ⟨rfl, c, hD, hX⟩)
              · gi_wp2
                obtain ⟨k0, k1, k3, k4⟩ := HCE.out W3 (HC.out.stay _ _ hJ3)
                have hn3 := HC.out.next _ _ hA3
                rw [HR2.out, List.tail_cons] at hn3
                have HI2 := Lib.hid (IH2 R s3 W3 hJ3 hR3 hn3)
                clear hn3 hJ3 hR3 hA3 HRR hy
                refine Left.stageL (fun _ => trivial) 19 21 (by decide) (by decide) (by decide +kernel) (by decide +kernel) (fun y => { tmps := #[.pointer (some ⟨g, 0, none⟩), .int .i64 k, .func (.yield lx) #[] #[], undef, undef, undef, .bool false, .pointer (some ⟨g, 0, none⟩), .bool false, .pointer (some ⟨g, 0, none⟩), .pointer (some ⟨g, 0, none⟩), .pointer (some ⟨g, 0, none⟩), .int .i64 x, .int .i64 k, .bool false, undef, undef, undef, undef, undef, undef, undef, undef, .pointer (some ⟨g, 0, none⟩), .pointer (some ⟨g, 0, none⟩), .pointer (some ⟨g, 3, none⟩), .pointer (some ⟨g, 3, none⟩), .pointer la, .int .i64 k, .func (.yield lx) #[] #[], .bool true, .bool true, .func (.yield lx) #[] #[], .pointer (some ⟨g, 0, none⟩), .pointer (some ⟨g, 0, none⟩), .pointer (some ⟨g, 0, none⟩), .int .i64 x, .pointer (some ⟨g, 0, none⟩), .pointer (some ⟨g, 0, none⟩), .pointer (some ⟨g, 1, none⟩), .int .i64 v, .bool true, y 19, y 20, undef, undef, undef, undef, undef, undef, undef, undef], defers := [] }) (fun W => W3 = W) (fun i u W => match i with
                  | 19 => u = .bool true
                  | 20 => u = .bool true
                  | _ => True) (fun A B => SameW A B) ?hC ?hV (fun _ => undef) ?hw ?h0 ?hop ?hend
                case hC => exact fun A B h e => h.trans e.eq
                case hV => exact fun i u A B h e => by obtain ⟨rfl⟩ := e; exact h
                case hw => exact rfl
                case h0 =>
                  intro i hi
                  have hi' : i = 0 ∨ i = 1 ∨ i = 2 ∨ i = 3 ∨ i = 4 ∨ i = 5 ∨ i = 6 ∨ i = 7 ∨ i = 8 ∨ i = 9 ∨ i = 10 ∨ i = 11 ∨ i = 12 ∨ i = 13 ∨ i = 14 ∨ i = 15 ∨ i = 16 ∨ i = 17 ∨ i = 18 := by omega
                  rcases hi' with rfl | rfl | rfl | rfl | rfl | rfl | rfl | rfl | rfl | rfl | rfl | rfl | rfl | rfl | rfl | rfl | rfl | rfl | rfl
                  all_goals exact trivial
                case hop =>
                  simp only [AllDoIn, List.take_succ_cons, List.take_zero, List.drop_succ_cons, List.drop_zero, Nat.reduceAdd]
                  refine ⟨?o19, ?o20, trivial⟩
                  all_goals rintro y W rfl hd Q hQ
                  all_goals simp [Region.binds] at hd
                  case o19 =>
                    rw [if_pos (show Region.wanted _ _ = true from rfl)]
                    clear hd
                    gi_wp2
                    first | exact ⟨_, rfl, ⟨rfl⟩, rfl⟩ | (refine ⟨.bool true, ?_, ⟨rfl⟩, rfl⟩; simp [updV]) | (refine ⟨?_, ⟨rfl⟩⟩; simp [updV])
                  case o20 =>
                    rw [if_pos (show Region.wanted _ _ = true from rfl)]
                    have e19 : y 19 = .bool true := by simp_all
                    rw [e19]
                    clear hd
                    gi_wp2
                    first | exact ⟨_, rfl, ⟨rfl⟩, rfl⟩ | (refine ⟨.bool true, ?_, ⟨rfl⟩, rfl⟩; simp [updV, e19]) | (refine ⟨?_, ⟨rfl⟩⟩; simp [updV, e19])
                case hend =>
                  rintro y W rfl hv
                  have e19 : y 19 = .bool true := hv 19 (by decide)
                  have e20 : y 20 = .bool true := hv 20 (by decide)
                  clear hv
                  rw [e19, e20]
                  clear e19 e20
                  refine Left.stageL (fun _ => trivial) 21 27 (by decide) (by decide) (by decide +kernel) (by decide +kernel) (fun y => { tmps := #[.pointer (some ⟨g, 0, none⟩), .int .i64 k, .func (.yield lx) #[] #[], undef, undef, undef, .bool false, .pointer (some ⟨g, 0, none⟩), .bool false, .pointer (some ⟨g, 0, none⟩), .pointer (some ⟨g, 0, none⟩), .pointer (some ⟨g, 0, none⟩), .int .i64 x, .int .i64 k, .bool false, undef, undef, undef, undef, undef, undef, undef, undef, .pointer (some ⟨g, 0, none⟩), .pointer (some ⟨g, 0, none⟩), .pointer (some ⟨g, 3, none⟩), .pointer (some ⟨g, 3, none⟩), .pointer la, .int .i64 k, .func (.yield lx) #[] #[], .bool true, .bool true, .func (.yield lx) #[] #[], .pointer (some ⟨g, 0, none⟩), .pointer (some ⟨g, 0, none⟩), .pointer (some ⟨g, 0, none⟩), .int .i64 x, .pointer (some ⟨g, 0, none⟩), .pointer (some ⟨g, 0, none⟩), .pointer (some ⟨g, 1, none⟩), .int .i64 v, .bool true, .bool true, .bool true, y 21, y 22, y 23, y 24, y 25, y 26, undef, undef], defers := [] }) (fun W => W3 = W) (fun i u W => match i with
                    | 21 => u = .pointer (some ⟨g, 0, none⟩)
                    | 22 => u = .pointer (some ⟨g, 0, none⟩)
                    | 23 => u = .pointer (some ⟨g, 3, none⟩)
                    | 24 => u = .pointer (some ⟨g, 4, none⟩)
                    | 25 => u = .pointer ra
                    | 26 => u = .func (.yield lx) #[] #[]
                    | _ => True) (fun A B => SameW A B) ?hC ?hV (fun _ => undef) ?hw ?h0 ?hop ?hend
                  case hC => exact fun A B h e => h.trans e.eq
                  case hV => exact fun i u A B h e => by obtain ⟨rfl⟩ := e; exact h
                  case hw => exact rfl
                  case h0 =>
                    intro i hi
                    have hi' : i = 0 ∨ i = 1 ∨ i = 2 ∨ i = 3 ∨ i = 4 ∨ i = 5 ∨ i = 6 ∨ i = 7 ∨ i = 8 ∨ i = 9 ∨ i = 10 ∨ i = 11 ∨ i = 12 ∨ i = 13 ∨ i = 14 ∨ i = 15 ∨ i = 16 ∨ i = 17 ∨ i = 18 ∨ i = 19 ∨ i = 20 := by omega
                    rcases hi' with rfl | rfl | rfl | rfl | rfl | rfl | rfl | rfl | rfl | rfl | rfl | rfl | rfl | rfl | rfl | rfl | rfl | rfl | rfl | rfl | rfl
                    all_goals exact trivial
                  case hop =>
                    simp only [AllDoIn, List.take_succ_cons, List.take_zero, List.drop_succ_cons, List.drop_zero, Nat.reduceAdd]
                    refine ⟨?o21, ?o22, ?o23, ?o24, ?o25, ?o26, trivial⟩
                    all_goals rintro y W rfl hd Q hQ
                    all_goals simp [Region.binds] at hd
                    case o21 =>
                      rw [if_pos (show Region.wanted _ _ = true from rfl)]
                      clear hd
                      gi_wp2
                      first | exact ⟨_, rfl, ⟨rfl⟩, rfl⟩ | (refine ⟨.pointer (some ⟨g, 0, none⟩), ?_, ⟨rfl⟩, rfl⟩; simp [updV]) | (refine ⟨?_, ⟨rfl⟩⟩; simp [updV])
                    case o22 =>
                      rw [if_pos (show Region.wanted _ _ = true from rfl)]
                      have e21 : y 21 = .pointer (some ⟨g, 0, none⟩) := by simp_all
                      rw [e21]
                      clear hd
                      gi_wp2
                      first | exact ⟨_, rfl, ⟨rfl⟩, rfl⟩ | (refine ⟨.pointer (some ⟨g, 0, none⟩), ?_, ⟨rfl⟩, rfl⟩; simp [updV, e21]) | (refine ⟨?_, ⟨rfl⟩⟩; simp [updV, e21])
                    case o23 =>
                      rw [if_pos (show Region.wanted _ _ = true from rfl)]
                      have e22 : y 22 = .pointer (some ⟨g, 0, none⟩) := by simp_all
                      rw [e22]
                      clear hd
                      gi_wp2
                      first | exact ⟨_, rfl, ⟨rfl⟩, rfl⟩ | (refine ⟨.pointer (some ⟨g, 3, none⟩), ?_, ⟨rfl⟩, rfl⟩; simp [updV, e22]) | (refine ⟨?_, ⟨rfl⟩⟩; simp [updV, e22])
                    case o24 =>
                      rw [if_pos (show Region.wanted _ _ = true from rfl)]
                      have e23 : y 23 = .pointer (some ⟨g, 3, none⟩) := by simp_all
                      rw [e23]
                      clear hd
                      gi_wp2
                      first | exact ⟨_, rfl, ⟨rfl⟩, rfl⟩ | (refine ⟨.pointer (some ⟨g, 4, none⟩), ?_, ⟨rfl⟩, rfl⟩; simp [updV, e23]) | (refine ⟨?_, ⟨rfl⟩⟩; simp [updV, e23])
                    case o25 =>
                      rw [if_pos (show Region.wanted _ _ = true from rfl)]
                      have e24 : y 24 = .pointer (some ⟨g, 4, none⟩) := by simp_all
                      rw [e24]
                      clear hd
                      gi_wp2
                      first | exact ⟨_, rfl, ⟨rfl⟩, rfl⟩ | (refine ⟨.pointer ra, ?_, ⟨rfl⟩, rfl⟩; simp [updV, e24]) | (refine ⟨?_, ⟨rfl⟩⟩; simp [updV, e24])
                    case o26 =>
                      rw [if_pos (show Region.wanted _ _ = true from rfl)]
                      clear hd
                      gi_wp2
                      first | exact ⟨_, rfl, ⟨rfl⟩, rfl⟩ | (refine ⟨.func (.yield lx) #[] #[], ?_, ⟨rfl⟩, rfl⟩; simp [updV]) | (refine ⟨?_, ⟨rfl⟩⟩; simp [updV])
                  case hend =>
                    rintro y W rfl hv
                    have e21 : y 21 = .pointer (some ⟨g, 0, none⟩) := hv 21 (by decide)
                    have e22 : y 22 = .pointer (some ⟨g, 0, none⟩) := hv 22 (by decide)
                    have e23 : y 23 = .pointer (some ⟨g, 3, none⟩) := hv 23 (by decide)
                    have e24 : y 24 = .pointer (some ⟨g, 4, none⟩) := hv 24 (by decide)
                    have e25 : y 25 = .pointer ra := hv 25 (by decide)
                    have e26 : y 26 = .func (.yield lx) #[] #[] := hv 26 (by decide)
                    clear hv
                    rw [e21, e22, e23, e24, e25, e26]
                    clear e21 e22 e23 e24 e25 e26
                    refine Left.one (fun _ => trivial) 27 rfl (by decide +kernel) (by decide +kernel) ?_
                    intro Q hQ
                    rw [if_pos (show Region.wanted _ _ = true from rfl)]
                    gi_wp2_with fail
                    refine ⟨trivial, ?_⟩
                    refine (callsIn_wide.2 HI2.out).mono ?_
                    rintro e W4 (⟨rfl, hR4, s4, hr4, hJ4⟩ | ⟨rfl, c, hD, hX⟩)
                    · gi_wp2
                      refine Left.stageL (fun _ => trivial) 28 30 (by decide) (by decide) (by decide +kernel) (by decide +kernel) (fun y => { tmps := #[.pointer (some ⟨g, 0, none⟩), .int .i64 k, .func (.yield lx) #[] #[], undef, undef, undef, y 29, .pointer (some ⟨g, 0, none⟩), .bool false, .pointer (some ⟨g, 0, none⟩), .pointer (some ⟨g, 0, none⟩), .pointer (some ⟨g, 0, none⟩), .int .i64 x, .int .i64 k, .bool false, undef, undef, undef, undef, undef, undef, undef, undef, .pointer (some ⟨g, 0, none⟩), .pointer (some ⟨g, 0, none⟩), .pointer (some ⟨g, 3, none⟩), .pointer (some ⟨g, 3, none⟩), .pointer la, .int .i64 k, .func (.yield lx) #[] #[], .bool true, .bool true, .func (.yield lx) #[] #[], .pointer (some ⟨g, 0, none⟩), .pointer (some ⟨g, 0, none⟩), .pointer (some ⟨g, 0, none⟩), .int .i64 x, .pointer (some ⟨g, 0, none⟩), .pointer (some ⟨g, 0, none⟩), .pointer (some ⟨g, 1, none⟩), .int .i64 v, .bool true, .bool true, .bool true, .pointer (some ⟨g, 0, none⟩), .pointer (some ⟨g, 0, none⟩), .pointer (some ⟨g, 3, none⟩), .pointer (some ⟨g, 4, none⟩), .pointer ra, .func (.yield lx) #[] #[], .bool true, y 28], defers := [] }) (fun W => W4 = W) (fun i u W => match i with
                        | 28 => u = .bool true
                        | 29 => u = .bool true
                        | _ => True) (fun A B => SameW A B) ?hC ?hV (fun i => if i = 29 then .bool false else undef) ?hw ?h0 ?hop ?hend
                      case hC => exact fun A B h e => h.trans e.eq
                      case hV => exact fun i u A B h e => by obtain ⟨rfl⟩ := e; exact h
                      case hw => exact rfl
                      case h0 =>
                        intro i hi
                        have hi' : i = 0 ∨ i = 1 ∨ i = 2 ∨ i = 3 ∨ i = 4 ∨ i = 5 ∨ i = 6 ∨ i = 7 ∨ i = 8 ∨ i = 9 ∨ i = 10 ∨ i = 11 ∨ i = 12 ∨ i = 13 ∨ i = 14 ∨ i = 15 ∨ i = 16 ∨ i = 17 ∨ i = 18 ∨ i = 19 ∨ i = 20 ∨ i = 21 ∨ i = 22 ∨ i = 23 ∨ i = 24 ∨ i = 25 ∨ i = 26 ∨ i = 27 := by omega
                        rcases hi' with rfl | rfl | rfl | rfl | rfl | rfl | rfl | rfl | rfl | rfl | rfl | rfl | rfl | rfl | rfl | rfl | rfl | rfl | rfl | rfl | rfl | rfl | rfl | rfl | rfl | rfl | rfl | rfl
                        all_goals exact trivial
                      case hop =>
                        simp only [AllDoIn, List.take_succ_cons, List.take_zero, List.drop_succ_cons, List.drop_zero, Nat.reduceAdd]
                        refine ⟨?o28, ?o29, trivial⟩
                        all_goals rintro y W rfl hd Q hQ
                        all_goals simp [Region.binds] at hd
                        case o28 =>
                          rw [if_pos (show Region.wanted _ _ = true from rfl)]
                          clear hd
                          gi_wp2
                          first | exact ⟨_, rfl, ⟨rfl⟩, rfl⟩ | (refine ⟨.bool true, ?_, ⟨rfl⟩, rfl⟩; simp [updV]) | (refine ⟨?_, ⟨rfl⟩⟩; simp [updV])
                        case o29 =>
                          rw [if_pos (show Region.wanted _ _ = true from rfl)]
                          have e28 : y 28 = .bool true := by simp_all
                          rw [e28]
                          clear hd
                          gi_wp2
                          first | exact ⟨_, rfl, ⟨rfl⟩, rfl⟩ | (refine ⟨.bool true, ?_, ⟨rfl⟩, rfl⟩; simp [updV, e28]) | (refine ⟨?_, ⟨rfl⟩⟩; simp [updV, e28])
                      case hend =>
                        rintro y W rfl hv
                        have e28 : y 28 = .bool true := hv 28 (by decide)
                        have e29 : y 29 = .bool true := hv 29 (by decide)
                        clear hv
                        rw [e28, e29]
                        clear e28 e29
                        refine Left.end_ ?_
                        gi_wp2
                        refine bodyPost_ret (results_tmp rfl _ _ _) rfl ?_
                        exact .inl ⟨rfl, hR4, s4, hr4, hJ4⟩
                    · gi_wp2
                      refine Left.stageL (fun _ => trivial) 28 30 (by decide) (by decide) (by decide +kernel) (by decide +kernel) (fun y => { tmps := #[.pointer (some ⟨g, 0, none⟩), .int .i64 k, .func (.yield lx) #[] #[], undef, undef, undef, y 29, .pointer (some ⟨g, 0, none⟩), .bool false, .pointer (some ⟨g, 0, none⟩), .pointer (some ⟨g, 0, none⟩), .pointer (some ⟨g, 0, none⟩), .int .i64 x, .int .i64 k, .bool false, undef, undef, undef, undef, undef, undef, undef, undef, .pointer (some ⟨g, 0, none⟩), .pointer (some ⟨g, 0, none⟩), .pointer (some ⟨g, 3, none⟩), .pointer (some ⟨g, 3, none⟩), .pointer la, .int .i64 k, .func (.yield lx) #[] #[], .bool true, .bool true, .func (.yield lx) #[] #[], .pointer (some ⟨g, 0, none⟩), .pointer (some ⟨g, 0, none⟩), .pointer (some ⟨g, 0, none⟩), .int .i64 x, .pointer (some ⟨g, 0, none⟩), .pointer (some ⟨g, 0, none⟩), .pointer (some ⟨g, 1, none⟩), .int .i64 v, .bool true, .bool true, .bool true, .pointer (some ⟨g, 0, none⟩), .pointer (some ⟨g, 0, none⟩), .pointer (some ⟨g, 3, none⟩), .pointer (some ⟨g, 4, none⟩), .pointer ra, .func (.yield lx) #[] #[], .bool false, y 28], defers := [] }) (fun W => W4 = W) (fun i u W => match i with
                        | 28 => u = .bool false
                        | 29 => u = .bool false
                        | _ => True) (fun A B => SameW A B) ?hC ?hV (fun i => if i = 29 then .bool false else undef) ?hw ?h0 ?hop ?hend
                      case hC => exact fun A B h e => h.trans e.eq
                      case hV => exact fun i u A B h e => by obtain ⟨rfl⟩ := e; exact h
                      case hw => exact rfl
                      case h0 =>
                        intro i hi
                        have hi' : i = 0 ∨ i = 1 ∨ i = 2 ∨ i = 3 ∨ i = 4 ∨ i = 5 ∨ i = 6 ∨ i = 7 ∨ i = 8 ∨ i = 9 ∨ i = 10 ∨ i = 11 ∨ i = 12 ∨ i = 13 ∨ i = 14 ∨ i = 15 ∨ i = 16 ∨ i = 17 ∨ i = 18 ∨ i = 19 ∨ i = 20 ∨ i = 21 ∨ i = 22 ∨ i = 23 ∨ i = 24 ∨ i = 25 ∨ i = 26 ∨ i = 27 := by omega
                        rcases hi' with rfl | rfl | rfl | rfl | rfl | rfl | rfl | rfl | rfl | rfl | rfl | rfl | rfl | rfl | rfl | rfl | rfl | rfl | rfl | rfl | rfl | rfl | rfl | rfl | rfl | rfl | rfl | rfl
                        all_goals exact trivial
                      case hop =>
                        simp only [AllDoIn, List.take_succ_cons, List.take_zero, List.drop_succ_cons, List.drop_zero, Nat.reduceAdd]
                        refine ⟨?o28, ?o29, trivial⟩
                        all_goals rintro y W rfl hd Q hQ
                        all_goals simp [Region.binds] at hd
                        case o28 =>
                          rw [if_pos (show Region.wanted _ _ = true from rfl)]
                          clear hd
                          gi_wp2
                          first | exact ⟨_, rfl, ⟨rfl⟩, rfl⟩ | (refine ⟨.bool false, ?_, ⟨rfl⟩, rfl⟩; simp [updV]) | (refine ⟨?_, ⟨rfl⟩⟩; simp [updV])
                        case o29 =>
                          rw [if_pos (show Region.wanted _ _ = true from rfl)]
                          have e28 : y 28 = .bool false := by simp_all
                          rw [e28]
                          clear hd
                          gi_wp2
                          first | exact ⟨_, rfl, ⟨rfl⟩, rfl⟩ | (refine ⟨.bool false, ?_, ⟨rfl⟩, rfl⟩; simp [updV, e28]) | (refine ⟨?_, ⟨rfl⟩⟩; simp [updV, e28])
                      case hend =>
                        rintro y W rfl hv
                        have e28 : y 28 = .bool false := hv 28 (by decide)
                        have e29 : y 29 = .bool false := hv 29 (by decide)
                        clear hv
                        rw [e28, e29]
                        clear e28 e29
                        refine Left.end_ ?_
                        gi_wp2
                        refine bodyPost_ret (results_tmp rfl _ _ _) rfl ?_
                        exact .inr ⟨rfl, c, hD, hX⟩
              · gi_wp2
                refine Left.stageL (fun _ => trivial) 19 21 (by decide) (by decide) (by decide +kernel) (by decide +kernel) (fun y => { tmps := #[.pointer (some ⟨g, 0, none⟩), .int .i64 k, .func (.yield lx) #[] #[], undef, undef, undef, .bool false, .pointer (some ⟨g, 0, none⟩), .bool false, .pointer (some ⟨g, 0, none⟩), .pointer (some ⟨g, 0, none⟩), .pointer (some ⟨g, 0, none⟩), .int .i64 x, .int .i64 k, .bool false, undef, undef, undef, undef, undef, undef, undef, undef, .pointer (some ⟨g, 0, none⟩), .pointer (some ⟨g, 0, none⟩), .pointer (some ⟨g, 3, none⟩), .pointer (some ⟨g, 3, none⟩), .pointer la, .int .i64 k, .func (.yield lx) #[] #[], .bool true, .bool true, .func (.yield lx) #[] #[], .pointer (some ⟨g, 0, none⟩), .pointer (some ⟨g, 0, none⟩), .pointer (some ⟨g, 0, none⟩), .int .i64 x, .pointer (some ⟨g, 0, none⟩), .pointer (some ⟨g, 0, none⟩), .pointer (some ⟨g, 1, none⟩), .int .i64 v, .bool false, y 19, y 20, undef, undef, undef, undef, undef, undef, undef, undef], defers := [] }) (fun W => W3 = W) (fun i u W => match i with
                  | 19 => u = .bool false
                  | 20 => u = .bool false
                  | _ => True) (fun A B => SameW A B) ?hC ?hV (fun _ => undef) ?hw ?h0 ?hop ?hend
                case hC => exact fun A B h e => h.trans e.eq
                case hV => exact fun i u A B h e => by obtain ⟨rfl⟩ := e; exact h
                case hw => exact rfl
                case h0 =>
                  intro i hi
                  have hi' : i = 0 ∨ i = 1 ∨ i = 2 ∨ i = 3 ∨ i = 4 ∨ i = 5 ∨ i = 6 ∨ i = 7 ∨ i = 8 ∨ i = 9 ∨ i = 10 ∨ i = 11 ∨ i = 12 ∨ i = 13 ∨ i = 14 ∨ i = 15 ∨ i = 16 ∨ i = 17 ∨ i = 18 := by omega
                  rcases hi' with rfl | rfl | rfl | rfl | rfl | rfl | rfl | rfl | rfl | rfl | rfl | rfl | rfl | rfl | rfl | rfl | rfl | rfl | rfl
                  all_goals exact trivial
                case hop =>
                  simp only [AllDoIn, List.take_succ_cons, List.take_zero, List.drop_succ_cons, List.drop_zero, Nat.reduceAdd]
                  refine ⟨?o19, ?o20, trivial⟩
                  all_goals rintro y W rfl hd Q hQ
                  all_goals simp [Region.binds] at hd
                  case o19 =>
                    rw [if_pos (show Region.wanted _ _ = true from rfl)]
                    clear hd
                    gi_wp2
                    first | exact ⟨_, rfl, ⟨rfl⟩, rfl⟩ | (refine ⟨.bool false, ?_, ⟨rfl⟩, rfl⟩; simp [updV]) | (refine ⟨?_, ⟨rfl⟩⟩; simp [updV])
                  case o20 =>
                    rw [if_pos (show Region.wanted _ _ = true from rfl)]
                    have e19 : y 19 = .bool false := by simp_all
                    rw [e19]
                    clear hd
                    gi_wp2
                    first | exact ⟨_, rfl, ⟨rfl⟩, rfl⟩ | (refine ⟨.bool false, ?_, ⟨rfl⟩, rfl⟩; simp [updV, e19]) | (refine ⟨?_, ⟨rfl⟩⟩; simp [updV, e19])
                case hend =>
                  rintro y W rfl hv
                  have e19 : y 19 = .bool false := hv 19 (by decide)
                  have e20 : y 20 = .bool false := hv 20 (by decide)
                  clear hv
                  rw [e19, e20]
                  clear e19 e20
                  refine Left.stageL (fun _ => trivial) 21 28 (by decide) (by decide) (by decide +kernel) (by decide +kernel) (fun y => { tmps := #[.pointer (some ⟨g, 0, none⟩), .int .i64 k, .func (.yield lx) #[] #[], undef, undef, undef, .bool false, .pointer (some ⟨g, 0, none⟩), .bool false, .pointer (some ⟨g, 0, none⟩), .pointer (some ⟨g, 0, none⟩), .pointer (some ⟨g, 0, none⟩), .int .i64 x, .int .i64 k, .bool false, undef, undef, undef, undef, undef, undef, undef, undef, .pointer (some ⟨g, 0, none⟩), .pointer (some ⟨g, 0, none⟩), .pointer (some ⟨g, 3, none⟩), .pointer (some ⟨g, 3, none⟩), .pointer la, .int .i64 k, .func (.yield lx) #[] #[], .bool true, .bool true, .func (.yield lx) #[] #[], .pointer (some ⟨g, 0, none⟩), .pointer (some ⟨g, 0, none⟩), .pointer (some ⟨g, 0, none⟩), .int .i64 x, .pointer (some ⟨g, 0, none⟩), .pointer (some ⟨g, 0, none⟩), .pointer (some ⟨g, 1, none⟩), .int .i64 v, .bool false, .bool false, .bool false, y 21, y 22, y 23, y 24, y 25, y 26, y 27, undef], defers := [] }) (fun W => W3 = W) (fun i u W => match i with
                    | 21 => u = undef
                    | 22 => u = undef
                    | 23 => u = undef
                    | 24 => u = undef
                    | 25 => u = undef
                    | 26 => u = undef
                    | 27 => u = undef
                    | _ => True) (fun A B => SameW A B) ?hC ?hV (fun _ => undef) ?hw ?h0 ?hop ?hend
                  case hC => exact fun A B h e => h.trans e.eq
                  case hV => exact fun i u A B h e => by obtain ⟨rfl⟩ := e; exact h
                  case hw => exact rfl
                  case h0 =>
                    intro i hi
                    have hi' : i = 0 ∨ i = 1 ∨ i = 2 ∨ i = 3 ∨ i = 4 ∨ i = 5 ∨ i = 6 ∨ i = 7 ∨ i = 8 ∨ i = 9 ∨ i = 10 ∨ i = 11 ∨ i = 12 ∨ i = 13 ∨ i = 14 ∨ i = 15 ∨ i = 16 ∨ i = 17 ∨ i = 18 ∨ i = 19 ∨ i = 20 := by omega
                    rcases hi' with rfl | rfl | rfl | rfl | rfl | rfl | rfl | rfl | rfl | rfl | rfl | rfl | rfl | rfl | rfl | rfl | rfl | rfl | rfl | rfl | rfl
                    all_goals exact trivial
                  case hop =>
                    simp only [AllDoIn, List.take_succ_cons, List.take_zero, List.drop_succ_cons, List.drop_zero, Nat.reduceAdd]
                    refine ⟨?o21, ?o22, ?o23, ?o24, ?o25, ?o26, ?o27, trivial⟩
                    all_goals rintro y W rfl hd Q hQ
                    all_goals simp [Region.binds] at hd
                    case o21 =>
                      rw [if_neg (not_wanted (b := Region.wanted _ _) rfl)]
                      exact hQ _ _ ⟨undef, rfl, ⟨rfl⟩, rfl⟩
                    case o22 =>
                      rw [if_neg (not_wanted (b := Region.wanted _ _) rfl)]
                      exact hQ _ _ ⟨undef, rfl, ⟨rfl⟩, rfl⟩
                    case o23 =>
                      rw [if_neg (not_wanted (b := Region.wanted _ _) rfl)]
                      exact hQ _ _ ⟨undef, rfl, ⟨rfl⟩, rfl⟩
                    case o24 =>
                      rw [if_neg (not_wanted (b := Region.wanted _ _) rfl)]
                      exact hQ _ _ ⟨undef, rfl, ⟨rfl⟩, rfl⟩
                    case o25 =>
                      rw [if_neg (not_wanted (b := Region.wanted _ _) rfl)]
                      exact hQ _ _ ⟨undef, rfl, ⟨rfl⟩, rfl⟩
                    case o26 =>
                      rw [if_neg (not_wanted (b := Region.wanted _ _) rfl)]
                      exact hQ _ _ ⟨undef, rfl, ⟨rfl⟩, rfl⟩
                    case o27 =>
                      rw [if_neg (not_wanted (b := Region.wanted _ _) rfl)]
                      exact hQ _ _ ⟨undef, rfl, ⟨rfl⟩, rfl⟩
                  case hend =>
                    rintro y W rfl hv
                    have e21 : y 21 = undef := hv 21 (by decide)
                    have e22 : y 22 = undef := hv 22 (by decide)
                    have e23 : y 23 = undef := hv 23 (by decide)
                    have e24 : y 24 = undef := hv 24 (by decide)
                    have e25 : y 25 = undef := hv 25 (by decide)
                    have e26 : y 26 = undef := hv 26 (by decide)
                    have e27 : y 27 = undef := hv 27 (by decide)
                    clear hv
                    rw [e21, e22, e23, e24, e25, e26, e27]
                    clear e21 e22 e23 e24 e25 e26 e27
                    refine Left.stageL (fun _ => trivial) 28 30 (by decide) (by decide) (by decide +kernel) (by decide +kernel) (fun y => { tmps := #[.pointer (some ⟨g, 0, none⟩), .int .i64 k, .func (.yield lx) #[] #[], undef, undef, undef, y 29, .pointer (some ⟨g, 0, none⟩), .bool false, .pointer (some ⟨g, 0, none⟩), .pointer (some ⟨g, 0, none⟩), .pointer (some ⟨g, 0, none⟩), .int .i64 x, .int .i64 k, .bool false, undef, undef, undef, undef, undef, undef, undef, undef, .pointer (some ⟨g, 0, none⟩), .pointer (some ⟨g, 0, none⟩), .pointer (some ⟨g, 3, none⟩), .pointer (some ⟨g, 3, none⟩), .pointer la, .int .i64 k, .func (.yield lx) #[] #[], .bool true, .bool true, .func (.yield lx) #[] #[], .pointer (some ⟨g, 0, none⟩), .pointer (some ⟨g, 0, none⟩), .pointer (some ⟨g, 0, none⟩), .int .i64 x, .pointer (some ⟨g, 0, none⟩), .pointer (some ⟨g, 0, none⟩), .pointer (some ⟨g, 1, none⟩), .int .i64 v, .bool false, .bool false, .bool false, undef, undef, undef, undef, undef, undef, undef, y 28], defers := [] }) (fun W => W3 = W) (fun i u W => match i with
                      | 28 => u = .bool false
                      | 29 => u = .bool false
                      | _ => True) (fun A B => SameW A B) ?hC ?hV (fun i => if i = 29 then .bool false else undef) ?hw ?h0 ?hop ?hend
                    case hC => exact fun A B h e => h.trans e.eq
                    case hV => exact fun i u A B h e => by obtain ⟨rfl⟩ := e; exact h
                    case hw => exact rfl
                    case h0 =>
                      intro i hi
                      have hi' : i = 0 ∨ i = 1 ∨ i = 2 ∨ i = 3 ∨ i = 4 ∨ i = 5 ∨ i = 6 ∨ i = 7 ∨ i = 8 ∨ i = 9 ∨ i = 10 ∨ i = 11 ∨ i = 12 ∨ i = 13 ∨ i = 14 ∨ i = 15 ∨ i = 16 ∨ i = 17 ∨ i = 18 ∨ i = 19 ∨ i = 20 ∨ i = 21 ∨ i = 22 ∨ i = 23 ∨ i = 24 ∨ i = 25 ∨ i = 26 ∨ i = 27 := by omega
                      rcases hi' with rfl | rfl | rfl | rfl | rfl | rfl | rfl | rfl | rfl | rfl | rfl | rfl | rfl | rfl | rfl | rfl | rfl | rfl | rfl | rfl | rfl | rfl | rfl | rfl | rfl | rfl | rfl | rfl
                      all_goals exact trivial
                    case hop =>
                      simp only [AllDoIn, List.take_succ_cons, List.take_zero, List.drop_succ_cons, List.drop_zero, Nat.reduceAdd]
                      refine ⟨?o28, ?o29, trivial⟩
                      all_goals rintro y W rfl hd Q hQ
                      all_goals simp [Region.binds] at hd
                      case o28 =>
                        rw [if_pos (show Region.wanted _ _ = true from rfl)]
                        clear hd
                        gi_wp2
                        first | exact ⟨_, rfl, ⟨rfl⟩, rfl⟩ | (refine ⟨.bool false, ?_, ⟨rfl⟩, rfl⟩; simp [updV]) | (refine ⟨?_, ⟨rfl⟩⟩; simp [updV])
                      case o29 =>
                        rw [if_pos (show Region.wanted _ _ = true from rfl)]
                        have e28 : y 28 = .bool false := by simp_all
                        rw [e28]
                        clear hd
                        gi_wp2
                        first | exact ⟨_, rfl, ⟨rfl⟩, rfl⟩ | (refine ⟨.bool false, ?_, ⟨rfl⟩, rfl⟩; simp [updV, e28]) | (refine ⟨?_, ⟨rfl⟩⟩; simp [updV, e28])
                    case hend =>
                      rintro y W rfl hv
                      have e28 : y 28 = .bool false := hv 28 (by decide)
                      have e29 : y 29 = .bool false := hv 29 (by decide)
                      clear hv
                      rw [e28, e29]
                      clear e28 e29
                      refine Left.end_ ?_
                      gi_wp2
                      refine bodyPost_ret (results_tmp rfl _ _ _) rfl ?_
                      exact .inr ⟨rfl, c, hD, hX⟩
        · gi_wp2
          refine Left.stageL (fun _ => trivial) 8 9 (by decide) (by decide) (by decide +kernel) (by decide +kernel) (fun y => { tmps := #[.pointer (some ⟨g, 0, none⟩), .int .i64 k, .func (.yield lx) #[] #[], undef, undef, undef, .bool false, .pointer (some ⟨g, 0, none⟩), .bool false, .pointer (some ⟨g, 0, none⟩), .pointer (some ⟨g, 0, none⟩), .pointer (some ⟨g, 0, none⟩), .int .i64 x, .int .i64 k, .bool false, undef, undef, undef, undef, undef, undef, undef, undef, .pointer (some ⟨g, 0, none⟩), .pointer (some ⟨g, 0, none⟩), .pointer (some ⟨g, 3, none⟩), .pointer (some ⟨g, 3, none⟩), .pointer la, .int .i64 k, .func (.yield lx) #[] #[], .bool false, y 8, undef, undef, undef, undef, undef, undef, undef, undef, undef, undef, undef, undef, undef, undef, undef, undef, undef, undef, undef, undef], defers := [] }) (fun W => W2 = W) (fun i u W => match i with
            | 8 => u = .bool false
            | _ => True) (fun A B => SameW A B) ?hC ?hV (fun _ => undef) ?hw ?h0 ?hop ?hend
          case hC => exact fun A B h e => h.trans e.eq
          case hV => exact fun i u A B h e => by obtain ⟨rfl⟩ := e; exact h
          case hw => exact rfl
          case h0 =>
            intro i hi
            have hi' : i = 0 ∨ i = 1 ∨ i = 2 ∨ i = 3 ∨ i = 4 ∨ i = 5 ∨ i = 6 ∨ i = 7 := by omega
            rcases hi' with rfl | rfl | rfl | rfl | rfl | rfl | rfl | rfl
            all_goals exact trivial
          case hop =>
            simp only [AllDoIn, List.take_succ_cons, List.take_zero, List.drop_succ_cons, List.drop_zero, Nat.reduceAdd]
            refine ⟨?o8, trivial⟩
            all_goals rintro y W rfl hd Q hQ
            all_goals simp [Region.binds] at hd
            case o8 =>
              rw [if_pos (show Region.wanted _ _ = true from rfl)]
              clear hd
              gi_wp2
              first | exact ⟨_, rfl, ⟨rfl⟩, rfl⟩ | (refine ⟨.bool false, ?_, ⟨rfl⟩, rfl⟩; simp [updV]) | (refine ⟨?_, ⟨rfl⟩⟩; simp [updV])
          case hend =>
            rintro y W rfl hv
            have e8 : y 8 = .bool false := hv 8 (by decide)
            clear hv
            rw [e8]
            clear e8
            refine Left.stageL (fun _ => trivial) 9 19 (by decide) (by decide) (by decide +kernel) (by decide +kernel) (fun y => { tmps := #[.pointer (some ⟨g, 0, none⟩), .int .i64 k, .func (.yield lx) #[] #[], undef, undef, undef, .bool false, .pointer (some ⟨g, 0, none⟩), .bool false, .pointer (some ⟨g, 0, none⟩), .pointer (some ⟨g, 0, none⟩), .pointer (some ⟨g, 0, none⟩), .int .i64 x, .int .i64 k, .bool false, undef, undef, undef, undef, undef, undef, undef, undef, .pointer (some ⟨g, 0, none⟩), .pointer (some ⟨g, 0, none⟩), .pointer (some ⟨g, 3, none⟩), .pointer (some ⟨g, 3, none⟩), .pointer la, .int .i64 k, .func (.yield lx) #[] #[], .bool false, .bool false, y 9, y 10, y 11, y 12, y 13, y 14, y 15, y 16, y 17, y 18, undef, undef, undef, undef, undef, undef, undef, undef, undef, undef], defers := [] }) (fun W => W2 = W) (fun i u W => match i with
              | 9 => u = undef
              | 10 => u = undef
              | 11 => u = undef
              | 12 => u = undef
              | 13 => u = undef
              | 14 => u = undef
              | 15 => u = undef
              | 16 => u = undef
              | 17 => u = undef
              | 18 => u = undef
              | _ => True) (fun A B => SameW A B) ?hC ?hV (fun _ => undef) ?hw ?h0 ?hop ?hend
            case hC => exact fun A B h e => h.trans e.eq
            case hV => exact fun i u A B h e => by obtain ⟨rfl⟩ := e; exact h
            case hw => exact rfl
            case h0 =>
              intro i hi
              have hi' : i = 0 ∨ i = 1 ∨ i = 2 ∨ i = 3 ∨ i = 4 ∨ i = 5 ∨ i = 6 ∨ i = 7 ∨ i = 8 := by omega
              rcases hi' with rfl | rfl | rfl | rfl | rfl | rfl | rfl | rfl | rfl
              all_goals exact trivial
            case hop =>
              simp only [AllDoIn, List.take_succ_cons, List.take_zero, List.drop_succ_cons, List.drop_zero, Nat.reduceAdd]
              refine ⟨?o9, ?o10, ?o11, ?o12, ?o13, ?o14, ?o15, ?o16, ?o17, ?o18, trivial⟩
              all_goals rintro y W rfl hd Q hQ
              all_goals simp [Region.binds] at hd
              case o9 =>
                rw [if_neg (not_wanted (b := Region.wanted _ _) rfl)]
                exact hQ _ _ ⟨undef, rfl, ⟨rfl⟩, rfl⟩
              case o10 =>
                rw [if_neg (not_wanted (b := Region.wanted _ _) rfl)]
                exact hQ _ _ ⟨undef, rfl, ⟨rfl⟩, rfl⟩
              case o11 =>
                rw [if_neg (not_wanted (b := Region.wanted _ _) rfl)]
                exact hQ _ _ ⟨undef, rfl, ⟨rfl⟩, rfl⟩
              case o12 =>
                rw [if_neg (not_wanted (b := Region.wanted _ _) rfl)]
                exact hQ _ _ ⟨undef, rfl, ⟨rfl⟩, rfl⟩
              case o13 =>
                rw [if_neg (not_wanted (b := Region.wanted _ _) rfl)]
                exact hQ _ _ ⟨undef, rfl, ⟨rfl⟩, rfl⟩
              case o14 =>
                rw [if_neg (not_wanted (b := Region.wanted _ _) rfl)]
                exact hQ _ _ ⟨undef, rfl, ⟨rfl⟩, rfl⟩
              case o15 =>
                rw [if_neg (not_wanted (b := Region.wanted _ _) rfl)]
                exact hQ _ _ ⟨undef, rfl, ⟨rfl⟩, rfl⟩
              case o16 =>
                rw [if_neg (not_wanted (b := Region.wanted _ _) rfl)]
                exact hQ _ _ ⟨undef, rfl, ⟨rfl⟩, rfl⟩
              case o17 =>
                rw [if_neg (not_wanted (b := Region.wanted _ _) rfl)]
                exact hQ _ _ ⟨undef, rfl, ⟨rfl⟩, rfl⟩
              case o18 =>
                rw [if_neg (not_wanted (b := Region.wanted _ _) rfl)]
                exact hQ _ _ ⟨undef, rfl, ⟨rfl⟩, rfl⟩
            case hend =>
              rintro y W rfl hv
              have e9 : y 9 = undef := hv 9 (by decide)
              have e10 : y 10 = undef := hv 10 (by decide)
              have e11 : y 11 = undef := hv 11 (by decide)
              have e12 : y 12 = undef := hv 12 (by decide)
              have e13 : y 13 = undef := hv 13 (by decide)
              have e14 : y 14 = undef := hv 14 (by decide)
              have e15 : y 15 = undef := hv 15 (by decide)
              have e16 : y 16 = undef := hv 16 (by decide)
              have e17 : y 17 = undef := hv 17 (by decide)
              have e18 : y 18 = undef := hv 18 (by decide)
              clear hv
              rw [e9, e10, e11, e12, e13, e14, e15, e16, e17, e18]
              clear e9 e10 e11 e12 e13 e14 e15 e16 e17 e18
              refine Left.stageL (fun _ => trivial) 19 21 (by decide) (by decide) (by decide +kernel) (by decide +kernel) (fun y => { tmps := #[.pointer (some ⟨g, 0, none⟩), .int .i64 k, .func (.yield lx) #[] #[], undef, undef, undef, .bool false, .pointer (some ⟨g, 0, none⟩), .bool false, .pointer (some ⟨g, 0, none⟩), .pointer (some ⟨g, 0, none⟩), .pointer (some ⟨g, 0, none⟩), .int .i64 x, .int .i64 k, .bool false, undef, undef, undef, undef, undef, undef, undef, undef, .pointer (some ⟨g, 0, none⟩), .pointer (some ⟨g, 0, none⟩), .pointer (some ⟨g, 3, none⟩), .pointer (some ⟨g, 3, none⟩), .pointer la, .int .i64 k, .func (.yield lx) #[] #[], .bool false, .bool false, undef, undef, undef, undef, undef, undef, undef, undef, undef, undef, y 19, y 20, undef, undef, undef, undef, undef, undef, undef, undef], defers := [] }) (fun W => W2 = W) (fun i u W => match i with
                | 19 => u = .bool false
                | 20 => u = .bool false
                | _ => True) (fun A B => SameW A B) ?hC ?hV (fun _ => undef) ?hw ?h0 ?hop ?hend
              case hC => exact fun A B h e => h.trans e.eq
              case hV => exact fun i u A B h e => by obtain ⟨rfl⟩ := e; exact h
              case hw => exact rfl
              case h0 =>
                intro i hi
                have hi' : i = 0 ∨ i = 1 ∨ i = 2 ∨ i = 3 ∨ i = 4 ∨ i = 5 ∨ i = 6 ∨ i = 7 ∨ i = 8 ∨ i = 9 ∨ i = 10 ∨ i = 11 ∨ i = 12 ∨ i = 13 ∨ i = 14 ∨ i = 15 ∨ i = 16 ∨ i = 17 ∨ i = 18 := by omega
                rcases hi' with rfl | rfl | rfl | rfl | rfl | rfl | rfl | rfl | rfl | rfl | rfl | rfl | rfl | rfl | rfl | rfl | rfl | rfl | rfl
                all_goals exact trivial
              case hop =>
                simp only [AllDoIn, List.take_succ_cons, List.take_zero, List.drop_succ_cons, List.drop_zero, Nat.reduceAdd]
                refine ⟨?o19, ?o20, trivial⟩
                all_goals rintro y W rfl hd Q hQ
                all_goals simp [Region.binds] at hd
                case o19 =>
                  rw [if_pos (show Region.wanted _ _ = true from rfl)]
                  clear hd
                  gi_wp2
                  first | exact ⟨_, rfl, ⟨rfl⟩, rfl⟩ | (refine ⟨.bool false, ?_, ⟨rfl⟩, rfl⟩; simp [updV]) | (refine ⟨?_, ⟨rfl⟩⟩; simp [updV])
                case o20 =>
                  rw [if_pos (show Region.wanted _ _ = true from rfl)]
                  have e19 : y 19 = .bool false := by simp_all
                  rw [e19]
                  clear hd
                  gi_wp2
                  first | exact ⟨_, rfl, ⟨rfl⟩, rfl⟩ | (refine ⟨.bool false, ?_, ⟨rfl⟩, rfl⟩; simp [updV, e19]) | (refine ⟨?_, ⟨rfl⟩⟩; simp [updV, e19])
              case hend =>
                rintro y W rfl hv
                have e19 : y 19 = .bool false := hv 19 (by decide)
                have e20 : y 20 = .bool false := hv 20 (by decide)
                clear hv
                rw [e19, e20]
                clear e19 e20
                refine Left.stageL (fun _ => trivial) 21 28 (by decide) (by decide) (by decide +kernel) (by decide +kernel) (fun y => { tmps := #[.pointer (some ⟨g, 0, none⟩), .int .i64 k, .func (.yield lx) #[] #[], undef, undef, undef, .bool false, .pointer (some ⟨g, 0, none⟩), .bool false, .pointer (some ⟨g, 0, none⟩), .pointer (some ⟨g, 0, none⟩), .pointer (some ⟨g, 0, none⟩), .int .i64 x, .int .i64 k, .bool false, undef, undef, undef, undef, undef, undef, undef, undef, .pointer (some ⟨g, 0, none⟩), .pointer (some ⟨g, 0, none⟩), .pointer (some ⟨g, 3, none⟩), .pointer (some ⟨g, 3, none⟩), .pointer la, .int .i64 k, .func (.yield lx) #[] #[], .bool false, .bool false, undef, undef, undef, undef, undef, undef, undef, undef, undef, undef, .bool false, .bool false, y 21, y 22, y 23, y 24, y 25, y 26, y 27, undef], defers := [] }) (fun W => W2 = W) (fun i u W => match i with
                  | 21 => u = undef
                  | 22 => u = undef
                  | 23 => u = undef
                  | 24 => u = undef
                  | 25 => u = undef
                  | 26 => u = undef
                  | 27 => u = undef
                  | _ => True) (fun A B => SameW A B) ?hC ?hV (fun _ => undef) ?hw ?h0 ?hop ?hend
                case hC => exact fun A B h e => h.trans e.eq
                case hV => exact fun i u A B h e => by obtain ⟨rfl⟩ := e; exact h
                case hw => exact rfl
                case h0 =>
                  intro i hi
                  have hi' : i = 0 ∨ i = 1 ∨ i = 2 ∨ i = 3 ∨ i = 4 ∨ i = 5 ∨ i = 6 ∨ i = 7 ∨ i = 8 ∨ i = 9 ∨ i = 10 ∨ i = 11 ∨ i = 12 ∨ i = 13 ∨ i = 14 ∨ i = 15 ∨ i = 16 ∨ i = 17 ∨ i = 18 ∨ i = 19 ∨ i = 20 := by omega
                  rcases hi' with rfl | rfl | rfl | rfl | rfl | rfl | rfl | rfl | rfl | rfl | rfl | rfl | rfl | rfl | rfl | rfl | rfl | rfl | rfl | rfl | rfl
                  all_goals exact trivial
                case hop =>
                  simp only [AllDoIn, List.take_succ_cons, List.take_zero, List.drop_succ_cons, List.drop_zero, Nat.reduceAdd]
                  refine ⟨?o21, ?o22, ?o23, ?o24, ?o25, ?o26, ?o27, trivial⟩
                  all_goals rintro y W rfl hd Q hQ
                  all_goals simp [Region.binds] at hd
                  case o21 =>
                    rw [if_neg (not_wanted (b := Region.wanted _ _) rfl)]
                    exact hQ _ _ ⟨undef, rfl, ⟨rfl⟩, rfl⟩
                  case o22 =>
                    rw [if_neg (not_wanted (b := Region.wanted _ _) rfl)]
                    exact hQ _ _ ⟨undef, rfl, ⟨rfl⟩, rfl⟩
                  case o23 =>
                    rw [if_neg (not_wanted (b := Region.wanted _ _) rfl)]
                    exact hQ _ _ ⟨undef, rfl, ⟨rfl⟩, rfl⟩
                  case o24 =>
                    rw [if_neg (not_wanted (b := Region.wanted _ _) rfl)]
                    exact hQ _ _ ⟨undef, rfl, ⟨rfl⟩, rfl⟩
                  case o25 =>
                    rw [if_neg (not_wanted (b := Region.wanted _ _) rfl)]
                    exact hQ _ _ ⟨undef, rfl, ⟨rfl⟩, rfl⟩
                  case o26 =>
                    rw [if_neg (not_wanted (b := Region.wanted _ _) rfl)]
                    exact hQ _ _ ⟨undef, rfl, ⟨rfl⟩, rfl⟩
                  case o27 =>
                    rw [if_neg (not_wanted (b := Region.wanted _ _) rfl)]
                    exact hQ _ _ ⟨undef, rfl, ⟨rfl⟩, rfl⟩
                case hend =>
                  rintro y W rfl hv
                  have e21 : y 21 = undef := hv 21 (by decide)
                  have e22 : y 22 = undef := hv 22 (by decide)
                  have e23 : y 23 = undef := hv 23 (by decide)
                  have e24 : y 24 = undef := hv 24 (by decide)
                  have e25 : y 25 = undef := hv 25 (by decide)
                  have e26 : y 26 = undef := hv 26 (by decide)
                  have e27 : y 27 = undef := hv 27 (by decide)
                  clear hv
                  rw [e21, e22, e23, e24, e25, e26, e27]
                  clear e21 e22 e23 e24 e25 e26 e27
                  refine Left.stageL (fun _ => trivial) 28 30 (by decide) (by decide) (by decide +kernel) (by decide +kernel) (fun y => { tmps := #[.pointer (some ⟨g, 0, none⟩), .int .i64 k, .func (.yield lx) #[] #[], undef, undef, undef, y 29, .pointer (some ⟨g, 0, none⟩), .bool false, .pointer (some ⟨g, 0, none⟩), .pointer (some ⟨g, 0, none⟩), .pointer (some ⟨g, 0, none⟩), .int .i64 x, .int .i64 k, .bool false, undef, undef, undef, undef, undef, undef, undef, undef, .pointer (some ⟨g, 0, none⟩), .pointer (some ⟨g, 0, none⟩), .pointer (some ⟨g, 3, none⟩), .pointer (some ⟨g, 3, none⟩), .pointer la, .int .i64 k, .func (.yield lx) #[] #[], .bool false, .bool false, undef, undef, undef, undef, undef, undef, undef, undef, undef, undef, .bool false, .bool false, undef, undef, undef, undef, undef, undef, undef, y 28], defers := [] }) (fun W => W2 = W) (fun i u W => match i with
                    | 28 => u = .bool false
                    | 29 => u = .bool false
                    | _ => True) (fun A B => SameW A B) ?hC ?hV (fun i => if i = 29 then .bool false else undef) ?hw ?h0 ?hop ?hend
                  case hC => exact fun A B h e => h.trans e.eq
                  case hV => exact fun i u A B h e => by obtain ⟨rfl⟩ := e; exact h
                  case hw => exact rfl
                  case h0 =>
                    intro i hi
                    have hi' : i = 0 ∨ i = 1 ∨ i = 2 ∨ i = 3 ∨ i = 4 ∨ i = 5 ∨ i = 6 ∨ i = 7 ∨ i = 8 ∨ i = 9 ∨ i = 10 ∨ i = 11 ∨ i = 12 ∨ i = 13 ∨ i = 14 ∨ i = 15 ∨ i = 16 ∨ i = 17 ∨ i = 18 ∨ i = 19 ∨ i = 20 ∨ i = 21 ∨ i = 22 ∨ i = 23 ∨ i = 24 ∨ i = 25 ∨ i = 26 ∨ i = 27 := by omega
                    rcases hi' with rfl | rfl | rfl | rfl | rfl | rfl | rfl | rfl | rfl | rfl | rfl | rfl | rfl | rfl | rfl | rfl | rfl | rfl | rfl | rfl | rfl | rfl | rfl | rfl | rfl | rfl | rfl | rfl
                    all_goals exact trivial
                  case hop =>
                    simp only [AllDoIn, List.take_succ_cons, List.take_zero, List.drop_succ_cons, List.drop_zero, Nat.reduceAdd]
                    refine ⟨?o28, ?o29, trivial⟩
                    all_goals rintro y W rfl hd Q hQ
                    all_goals simp [Region.binds] at hd
                    case o28 =>
                      rw [if_pos (show Region.wanted _ _ = true from rfl)]
                      clear hd
                      gi_wp2
                      first | exact ⟨_, rfl, ⟨rfl⟩, rfl⟩ | (refine ⟨.bool false, ?_, ⟨rfl⟩, rfl⟩; simp [updV]) | (refine ⟨?_, ⟨rfl⟩⟩; simp [updV])
                    case o29 =>
                      rw [if_pos (show Region.wanted _ _ = true from rfl)]
                      have e28 : y 28 = .bool false := by simp_all
                      rw [e28]
                      clear hd
                      gi_wp2
                      first | exact ⟨_, rfl, ⟨rfl⟩, rfl⟩ | (refine ⟨.bool false, ?_, ⟨rfl⟩, rfl⟩; simp [updV, e28]) | (refine ⟨?_, ⟨rfl⟩⟩; simp [updV, e28])
                  case hend =>
                    rintro y W rfl hv
                    have e28 : y 28 = .bool false := hv 28 (by decide)
                    have e29 : y 29 = .bool false := hv 29 (by decide)
                    clear hv
                    rw [e28, e29]
                    clear e28 e29
                    refine Left.end_ ?_
                    gi_wp2
                    refine bodyPost_ret (results_tmp rfl _ _ _) rfl ?_
                    exact .inr ⟨rfl, c, hD, hX⟩
end Go.Proofs.Ytchnjafcnigllaa
