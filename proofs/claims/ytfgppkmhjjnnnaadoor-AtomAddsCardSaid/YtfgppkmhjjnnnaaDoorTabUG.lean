/- A table's nodes told one by one: a promise for whatever the caller's invariant is. -/
import Derived.Test.YtfgppkmhjjnnnaaDoorTabUF
import Derived.Test.YtfgppkmhjjnnnaaDoorRangeG
import Derived.Test.YtfgppkmhjjnnnaaDoorRegionStage
namespace Go.Proofs.YtfgppkmhjjnnnaaDoor
open Go.RowKit
set_option linter.unusedVariables false
attribute [local go_sem] Oper.semAt_some

theorem not_wanted {b : Bool} (h : b = false) : ¬ b = true := fun e => by rw [h] at e; cases e
structure SameW (A B : World) : Prop where
  eq : A = B
/-- In what order a side's keys are told. -/
def walkL : Bool → TrN → KV
  | _, .nil => []
  | false, .node k v l r => walkL false l ++ (k, v) :: walkL false r
  | true, .node k v l r => walkL true r ++ (k, v) :: walkL true l
theorem walk_rise : ∀ t : TrN, walkL false t = t.list
  | .nil => rfl
  | .node k v l r => by simp [walkL, Tr.list, walk_rise l, walk_rise r]
theorem walk_fall : ∀ t : TrN, walkL true t = t.list.reverse
  | .nil => rfl
  | .node k v l r => by simp [walkL, Tr.list, walk_fall l, walk_fall r]
/-- What telling a tree asks of its caller's invariant. -/
structure EachC {σ : Type} (W0 : World) (rest : σ → KV) (J : σ → World → Prop) (Jm : σ → Int × Int → World → Prop) (Af : σ → σ → Prop) : Prop where
  stay : ∀ s W, J s W → StayN W0 W
  drew : ∀ s W, J s W → J s W.drew
  yield : ∀ s W x r, J s W → rest s = x :: r → Jm s x W
  next : ∀ s s', Af s s' → rest s' = (rest s).tail
theorem round_wide {m m' l f : Nat} {P : Program} {tmps : Array Value} {assign body : Code} {w : World} {R : Ending → World → Prop} (h : RoundIn Fence.wide m P l f tmps assign body w R) : RoundIn Fence.wide m' P l f tmps assign body w R := ⟨h.1, fun c cs _ => h.2 c cs (room_wide _)⟩

set_option maxRecDepth 100000 in
set_option maxHeartbeats 16000000 in
theorem eachFalseN {σ : Type} {W0 : World} {rest : σ → KV} {J : σ → World → Prop} {Jm : σ → Int × Int → World → Prop} {Jx : Code → World → Prop} {Af : σ → σ → Prop} {lx m B : Nat} {Rd : World → Prop} {Dn : Code → World → Prop} (hC : EachC W0 rest J Jm Af)
    (hRd : ∀ A A', SameRec B A A' → Rd A → Rd A') (hY : ∀ s x A, Rd A → Jm s x A → YieldAt Fence.wide m Tryd.prog lx #[.int .u64 x.1, .int .i64 x.2] A fun e A' => (e = .returned (.bool true) ∧ Rd A' ∧ ∃ s', Af s s' ∧ J s' A') ∨ (e = .returned (.bool false) ∧ ∃ c, Dn c A' ∧ Jx c A')) :
    ∀ (t : TrN) (p : Value) (R : KV) (s : σ) (W : World), AtN W0 t p → J s W → Rd W → rest s = walkL false t ++ R → Calls Tryd.prog 42 #[p, .int .i64 0, .func (.yield lx) #[] #[]] W fun e W' => (e = .returned (.bool true) ∧ Rd W' ∧ ∃ s', rest s' = R ∧ J s' W') ∨ (e = .returned (.bool false) ∧ ∃ c, Dn c W' ∧ Jx c W')
  | .nil, p, R, s, W, h, hJ, hR, hr => by
    obtain rfl := h
    have hr : rest s = R := hr
    have HJ := Lib.hid (hC.drew s W hJ)
    have HRD := Lib.hid (hRd W W.drew ⟨rfl, rfl⟩ hR)
    clear hC hY hRd hJ hR
    refine (callsIn_wide (n := 2)).1 ?_
    refine callsIn_of_wp Tryd.func42 rfl trivial ?_ rfl
    simp only [Tryd.ntmps42, List.size_toArray, List.length_cons, List.length_nil, Nat.reduceAdd, Nat.reduceSub, Array.replicate_succ, Array.replicate_zero, List.push_toArray, List.append_toArray, List.nil_append, List.cons_append]
    gi_wp2_with fail
    refine region_left (by kernel_rfl) ?_
    obtain ⟨W1, hW1⟩ : ∃ W1, W.drew = W1 := ⟨_, rfl⟩
    rw [hW1] at HJ HRD ⊢
    clear hW1
    refine Left.stageL (fun _ => trivial) 0 3 (by decide) (by decide) (by decide +kernel) (by decide +kernel) (fun y => { tmps := #[.pointer none, .int .i64 0, .func (.yield lx) #[] #[], undef, undef, undef, .bool false, y 0, y 1, y 2, undef, undef, undef, undef, undef, undef, undef, undef, undef, undef, undef, undef, undef, undef, undef, undef, undef, undef, undef, undef, undef, undef, undef, undef, undef, undef, undef, undef, undef, undef, undef, undef, undef, undef], defers := [] }) (fun W => W1 = W) (fun i u W => match i with
      | 0 => u = .pointer none
      | 1 => u = .bool true
      | 2 => u = .bool true
      | _ => True) (fun A B => SameW A B) ?hC ?hV (fun _ => undef) ?hw ?h0 ?hop ?hend
    case hC => exact fun A B h e => h.trans e.eq
    case hV => exact fun i u A B h e => by obtain ⟨rfl⟩ := e; exact h
    case hw => exact rfl
    case h0 => exact fun i hi => by omega
    case hop =>
      simp only [AllDoIn, List.take_succ_cons, List.take_zero, List.drop_succ_cons, List.drop_zero, Nat.reduceAdd]
      refine ⟨?o0, ?o1, ?o2, trivial⟩
      all_goals rintro y W rfl hd Q hQ
      all_goals simp [Region.binds] at hd
      case o0 =>
        rw [if_pos (show Region.wanted _ _ = true from rfl)]
        clear hd
        gi_wp2
        first | exact ⟨_, rfl, ⟨rfl⟩, rfl⟩ | (refine ⟨.pointer none, ?_, ⟨rfl⟩, rfl⟩; simp [updV]) | (refine ⟨?_, ⟨rfl⟩⟩; simp [updV])
      case o1 =>
        rw [if_pos (show Region.wanted _ _ = true from rfl)]
        have e0 : y 0 = .pointer none := by simp_all
        rw [e0]
        clear hd
        gi_wp2
        first | exact ⟨_, rfl, ⟨rfl⟩, rfl⟩ | (refine ⟨.bool true, ?_, ⟨rfl⟩, rfl⟩; simp [updV, e0]) | (refine ⟨?_, ⟨rfl⟩⟩; simp [updV, e0])
      case o2 =>
        rw [if_pos (show Region.wanted _ _ = true from rfl)]
        have e1 : y 1 = .bool true := by simp_all
        rw [e1]
        clear hd
        gi_wp2
        first | exact ⟨_, rfl, ⟨rfl⟩, rfl⟩ | (refine ⟨.bool true, ?_, ⟨rfl⟩, rfl⟩; simp [updV, e1]) | (refine ⟨?_, ⟨rfl⟩⟩; simp [updV, e1])
    case hend =>
      rintro y W rfl hv
      have e0 : y 0 = .pointer none := hv 0 (by decide)
      have e1 : y 1 = .bool true := hv 1 (by decide)
      have e2 : y 2 = .bool true := hv 2 (by decide)
      clear hv
      rw [e0, e1, e2]
      clear e0 e1 e2
      refine Left.stageL (fun _ => trivial) 3 13 (by decide) (by decide) (by decide +kernel) (by decide +kernel) (fun y => { tmps := #[.pointer none, .int .i64 0, .func (.yield lx) #[] #[], undef, undef, undef, .bool false, .pointer none, .bool true, .bool true, y 3, y 4, y 5, y 6, y 7, y 8, y 9, y 10, y 11, y 12, undef, undef, undef, undef, undef, undef, undef, undef, undef, undef, undef, undef, undef, undef, undef, undef, undef, undef, undef, undef, undef, undef, undef, undef], defers := [] }) (fun W => W1 = W) (fun i u W => match i with
        | 3 => u = undef
        | 4 => u = undef
        | 5 => u = undef
        | 6 => u = undef
        | 7 => u = undef
        | 8 => u = undef
        | 9 => u = undef
        | 10 => u = undef
        | 11 => u = undef
        | 12 => u = undef
        | _ => True) (fun A B => SameW A B) ?hC ?hV (fun _ => undef) ?hw ?h0 ?hop ?hend
      case hC => exact fun A B h e => h.trans e.eq
      case hV => exact fun i u A B h e => by obtain ⟨rfl⟩ := e; exact h
      case hw => exact rfl
      case h0 =>
        intro i hi
        have hi' : i = 0 ∨ i = 1 ∨ i = 2 := by omega
        rcases hi' with rfl | rfl | rfl
        all_goals exact trivial
      case hop =>
        simp only [AllDoIn, List.take_succ_cons, List.take_zero, List.drop_succ_cons, List.drop_zero, Nat.reduceAdd]
        refine ⟨?o3, ?o4, ?o5, ?o6, ?o7, ?o8, ?o9, ?o10, ?o11, ?o12, trivial⟩
        all_goals rintro y W rfl hd Q hQ
        all_goals simp [Region.binds] at hd
        case o3 =>
          rw [if_neg (not_wanted (b := Region.wanted _ _) rfl)]
          exact hQ _ _ ⟨undef, rfl, ⟨rfl⟩, rfl⟩
        case o4 =>
          rw [if_neg (not_wanted (b := Region.wanted _ _) rfl)]
          exact hQ _ _ ⟨undef, rfl, ⟨rfl⟩, rfl⟩
        case o5 =>
          rw [if_neg (not_wanted (b := Region.wanted _ _) rfl)]
          exact hQ _ _ ⟨undef, rfl, ⟨rfl⟩, rfl⟩
        case o6 =>
          rw [if_neg (not_wanted (b := Region.wanted _ _) rfl)]
          exact hQ _ _ ⟨undef, rfl, ⟨rfl⟩, rfl⟩
        case o7 =>
          rw [if_neg (not_wanted (b := Region.wanted _ _) rfl)]
          exact hQ _ _ ⟨undef, rfl, ⟨rfl⟩, rfl⟩
        case o8 =>
          rw [if_neg (not_wanted (b := Region.wanted _ _) rfl)]
          exact hQ _ _ ⟨undef, rfl, ⟨rfl⟩, rfl⟩
        case o9 =>
          rw [if_neg (not_wanted (b := Region.wanted _ _) rfl)]
          exact hQ _ _ ⟨undef, rfl, ⟨rfl⟩, rfl⟩
        case o10 =>
          rw [if_neg (not_wanted (b := Region.wanted _ _) rfl)]
          exact hQ _ _ ⟨undef, rfl, ⟨rfl⟩, rfl⟩
        case o11 =>
          rw [if_neg (not_wanted (b := Region.wanted _ _) rfl)]
          exact hQ _ _ ⟨undef, rfl, ⟨rfl⟩, rfl⟩
        case o12 =>
          rw [if_neg (not_wanted (b := Region.wanted _ _) rfl)]
          exact hQ _ _ ⟨undef, rfl, ⟨rfl⟩, rfl⟩
      case hend =>
        rintro y W rfl hv
        have e3 : y 3 = undef := hv 3 (by decide)
        have e4 : y 4 = undef := hv 4 (by decide)
        have e5 : y 5 = undef := hv 5 (by decide)
        have e6 : y 6 = undef := hv 6 (by decide)
        have e7 : y 7 = undef := hv 7 (by decide)
        have e8 : y 8 = undef := hv 8 (by decide)
        have e9 : y 9 = undef := hv 9 (by decide)
        have e10 : y 10 = undef := hv 10 (by decide)
        have e11 : y 11 = undef := hv 11 (by decide)
        have e12 : y 12 = undef := hv 12 (by decide)
        clear hv
        rw [e3, e4, e5, e6, e7, e8, e9, e10, e11, e12]
        clear e3 e4 e5 e6 e7 e8 e9 e10 e11 e12
        refine Left.stageL (fun _ => trivial) 13 25 (by decide) (by decide) (by decide +kernel) (by decide +kernel) (fun y => { tmps := #[.pointer none, .int .i64 0, .func (.yield lx) #[] #[], undef, undef, undef, .bool false, .pointer none, .bool true, .bool true, undef, undef, undef, undef, undef, undef, undef, undef, undef, undef, y 13, y 14, y 15, y 16, y 17, y 18, y 19, y 20, y 21, y 22, y 23, y 24, undef, undef, undef, undef, undef, undef, undef, undef, undef, undef, undef, undef], defers := [] }) (fun W => W1 = W) (fun i u W => match i with
          | 13 => u = undef
          | 14 => u = undef
          | 15 => u = undef
          | 16 => u = undef
          | 17 => u = undef
          | 18 => u = undef
          | 19 => u = undef
          | 20 => u = undef
          | 21 => u = undef
          | 22 => u = undef
          | 23 => u = undef
          | 24 => u = undef
          | _ => True) (fun A B => SameW A B) ?hC ?hV (fun _ => undef) ?hw ?h0 ?hop ?hend
        case hC => exact fun A B h e => h.trans e.eq
        case hV => exact fun i u A B h e => by obtain ⟨rfl⟩ := e; exact h
        case hw => exact rfl
        case h0 =>
          intro i hi
          have hi' : i = 0 ∨ i = 1 ∨ i = 2 ∨ i = 3 ∨ i = 4 ∨ i = 5 ∨ i = 6 ∨ i = 7 ∨ i = 8 ∨ i = 9 ∨ i = 10 ∨ i = 11 ∨ i = 12 := by omega
          rcases hi' with rfl | rfl | rfl | rfl | rfl | rfl | rfl | rfl | rfl | rfl | rfl | rfl | rfl
          all_goals exact trivial
        case hop =>
          simp only [AllDoIn, List.take_succ_cons, List.take_zero, List.drop_succ_cons, List.drop_zero, Nat.reduceAdd]
          refine ⟨?o13, ?o14, ?o15, ?o16, ?o17, ?o18, ?o19, ?o20, ?o21, ?o22, ?o23, ?o24, trivial⟩
          all_goals rintro y W rfl hd Q hQ
          all_goals simp [Region.binds] at hd
          case o13 =>
            rw [if_neg (not_wanted (b := Region.wanted _ _) rfl)]
            exact hQ _ _ ⟨undef, rfl, ⟨rfl⟩, rfl⟩
          case o14 =>
            rw [if_neg (not_wanted (b := Region.wanted _ _) rfl)]
            exact hQ _ _ ⟨undef, rfl, ⟨rfl⟩, rfl⟩
          case o15 =>
            rw [if_neg (not_wanted (b := Region.wanted _ _) rfl)]
            exact hQ _ _ ⟨undef, rfl, ⟨rfl⟩, rfl⟩
          case o16 =>
            rw [if_neg (not_wanted (b := Region.wanted _ _) rfl)]
            exact hQ _ _ ⟨undef, rfl, ⟨rfl⟩, rfl⟩
          case o17 =>
            rw [if_neg (not_wanted (b := Region.wanted _ _) rfl)]
            exact hQ _ _ ⟨undef, rfl, ⟨rfl⟩, rfl⟩
          case o18 =>
            rw [if_neg (not_wanted (b := Region.wanted _ _) rfl)]
            exact hQ _ _ ⟨undef, rfl, ⟨rfl⟩, rfl⟩
          case o19 =>
            rw [if_neg (not_wanted (b := Region.wanted _ _) rfl)]
            exact hQ _ _ ⟨undef, rfl, ⟨rfl⟩, rfl⟩
          case o20 =>
            rw [if_neg (not_wanted (b := Region.wanted _ _) rfl)]
            exact hQ _ _ ⟨undef, rfl, ⟨rfl⟩, rfl⟩
          case o21 =>
            rw [if_neg (not_wanted (b := Region.wanted _ _) rfl)]
            exact hQ _ _ ⟨undef, rfl, ⟨rfl⟩, rfl⟩
          case o22 =>
            rw [if_neg (not_wanted (b := Region.wanted _ _) rfl)]
            exact hQ _ _ ⟨undef, rfl, ⟨rfl⟩, rfl⟩
          case o23 =>
            rw [if_neg (not_wanted (b := Region.wanted _ _) rfl)]
            exact hQ _ _ ⟨undef, rfl, ⟨rfl⟩, rfl⟩
          case o24 =>
            rw [if_neg (not_wanted (b := Region.wanted _ _) rfl)]
            exact hQ _ _ ⟨undef, rfl, ⟨rfl⟩, rfl⟩
        case hend =>
          rintro y W rfl hv
          have e13 : y 13 = undef := hv 13 (by decide)
          have e14 : y 14 = undef := hv 14 (by decide)
          have e15 : y 15 = undef := hv 15 (by decide)
          have e16 : y 16 = undef := hv 16 (by decide)
          have e17 : y 17 = undef := hv 17 (by decide)
          have e18 : y 18 = undef := hv 18 (by decide)
          have e19 : y 19 = undef := hv 19 (by decide)
          have e20 : y 20 = undef := hv 20 (by decide)
          have e21 : y 21 = undef := hv 21 (by decide)
          have e22 : y 22 = undef := hv 22 (by decide)
          have e23 : y 23 = undef := hv 23 (by decide)
          have e24 : y 24 = undef := hv 24 (by decide)
          clear hv
          rw [e13, e14, e15, e16, e17, e18, e19, e20, e21, e22, e23, e24]
          clear e13 e14 e15 e16 e17 e18 e19 e20 e21 e22 e23 e24
          refine Left.stageL (fun _ => trivial) 25 36 (by decide) (by decide) (by decide +kernel) (by decide +kernel) (fun y => { tmps := #[.pointer none, .int .i64 0, .func (.yield lx) #[] #[], undef, undef, undef, .bool false, .pointer none, .bool true, .bool true, undef, undef, undef, undef, undef, undef, undef, undef, undef, undef, undef, undef, undef, undef, undef, undef, undef, undef, undef, undef, undef, undef, y 25, y 26, y 27, y 28, y 29, y 30, y 31, y 32, y 33, y 34, y 35, undef], defers := [] }) (fun W => W1 = W) (fun i u W => match i with
            | 25 => u = undef
            | 26 => u = undef
            | 27 => u = undef
            | 28 => u = undef
            | 29 => u = undef
            | 30 => u = undef
            | 31 => u = undef
            | 32 => u = undef
            | 33 => u = undef
            | 34 => u = undef
            | 35 => u = undef
            | _ => True) (fun A B => SameW A B) ?hC ?hV (fun _ => undef) ?hw ?h0 ?hop ?hend
          case hC => exact fun A B h e => h.trans e.eq
          case hV => exact fun i u A B h e => by obtain ⟨rfl⟩ := e; exact h
          case hw => exact rfl
          case h0 =>
            intro i hi
            have hi' : i = 0 ∨ i = 1 ∨ i = 2 ∨ i = 3 ∨ i = 4 ∨ i = 5 ∨ i = 6 ∨ i = 7 ∨ i = 8 ∨ i = 9 ∨ i = 10 ∨ i = 11 ∨ i = 12 ∨ i = 13 ∨ i = 14 ∨ i = 15 ∨ i = 16 ∨ i = 17 ∨ i = 18 ∨ i = 19 ∨ i = 20 ∨ i = 21 ∨ i = 22 ∨ i = 23 ∨ i = 24 := by omega
            rcases hi' with rfl | rfl | rfl | rfl | rfl | rfl | rfl | rfl | rfl | rfl | rfl | rfl | rfl | rfl | rfl | rfl | rfl | rfl | rfl | rfl | rfl | rfl | rfl | rfl | rfl
            all_goals exact trivial
          case hop =>
            simp only [AllDoIn, List.take_succ_cons, List.take_zero, List.drop_succ_cons, List.drop_zero, Nat.reduceAdd]
            refine ⟨?o25, ?o26, ?o27, ?o28, ?o29, ?o30, ?o31, ?o32, ?o33, ?o34, ?o35, trivial⟩
            all_goals rintro y W rfl hd Q hQ
            all_goals simp [Region.binds] at hd
            case o25 =>
              rw [if_neg (not_wanted (b := Region.wanted _ _) rfl)]
              exact hQ _ _ ⟨undef, rfl, ⟨rfl⟩, rfl⟩
            case o26 =>
              rw [if_neg (not_wanted (b := Region.wanted _ _) rfl)]
              exact hQ _ _ ⟨undef, rfl, ⟨rfl⟩, rfl⟩
            case o27 =>
              rw [if_neg (not_wanted (b := Region.wanted _ _) rfl)]
              exact hQ _ _ ⟨undef, rfl, ⟨rfl⟩, rfl⟩
            case o28 =>
              rw [if_neg (not_wanted (b := Region.wanted _ _) rfl)]
              exact hQ _ _ ⟨undef, rfl, ⟨rfl⟩, rfl⟩
            case o29 =>
              rw [if_neg (not_wanted (b := Region.wanted _ _) rfl)]
              exact hQ _ _ ⟨undef, rfl, ⟨rfl⟩, rfl⟩
            case o30 =>
              rw [if_neg (not_wanted (b := Region.wanted _ _) rfl)]
              exact hQ _ _ ⟨undef, rfl, ⟨rfl⟩, rfl⟩
            case o31 =>
              rw [if_neg (not_wanted (b := Region.wanted _ _) rfl)]
              exact hQ _ _ ⟨undef, rfl, ⟨rfl⟩, rfl⟩
            case o32 =>
              rw [if_neg (not_wanted (b := Region.wanted _ _) rfl)]
              exact hQ _ _ ⟨undef, rfl, ⟨rfl⟩, rfl⟩
            case o33 =>
              rw [if_neg (not_wanted (b := Region.wanted _ _) rfl)]
              exact hQ _ _ ⟨undef, rfl, ⟨rfl⟩, rfl⟩
            case o34 =>
              rw [if_neg (not_wanted (b := Region.wanted _ _) rfl)]
              exact hQ _ _ ⟨undef, rfl, ⟨rfl⟩, rfl⟩
            case o35 =>
              rw [if_neg (not_wanted (b := Region.wanted _ _) rfl)]
              exact hQ _ _ ⟨undef, rfl, ⟨rfl⟩, rfl⟩
          case hend =>
            rintro y W rfl hv
            have e25 : y 25 = undef := hv 25 (by decide)
            have e26 : y 26 = undef := hv 26 (by decide)
            have e27 : y 27 = undef := hv 27 (by decide)
            have e28 : y 28 = undef := hv 28 (by decide)
            have e29 : y 29 = undef := hv 29 (by decide)
            have e30 : y 30 = undef := hv 30 (by decide)
            have e31 : y 31 = undef := hv 31 (by decide)
            have e32 : y 32 = undef := hv 32 (by decide)
            have e33 : y 33 = undef := hv 33 (by decide)
            have e34 : y 34 = undef := hv 34 (by decide)
            have e35 : y 35 = undef := hv 35 (by decide)
            clear hv
            rw [e25, e26, e27, e28, e29, e30, e31, e32, e33, e34, e35]
            clear e25 e26 e27 e28 e29 e30 e31 e32 e33 e34 e35
            refine Left.stageL (fun _ => trivial) 36 38 (by decide) (by decide) (by decide +kernel) (by decide +kernel) (fun y => { tmps := #[.pointer none, .int .i64 0, .func (.yield lx) #[] #[], undef, undef, undef, y 37, .pointer none, .bool true, .bool true, undef, undef, undef, undef, undef, undef, undef, undef, undef, undef, undef, undef, undef, undef, undef, undef, undef, undef, undef, undef, undef, undef, undef, undef, undef, undef, undef, undef, undef, undef, undef, undef, undef, y 36], defers := [] }) (fun W => W1 = W) (fun i u W => match i with
              | 36 => u = .bool true
              | 37 => u = .bool true
              | _ => True) (fun A B => SameW A B) ?hC ?hV (fun i => if i = 37 then .bool false else undef) ?hw ?h0 ?hop ?hend
            case hC => exact fun A B h e => h.trans e.eq
            case hV => exact fun i u A B h e => by obtain ⟨rfl⟩ := e; exact h
            case hw => exact rfl
            case h0 =>
              intro i hi
              have hi' : i = 0 ∨ i = 1 ∨ i = 2 ∨ i = 3 ∨ i = 4 ∨ i = 5 ∨ i = 6 ∨ i = 7 ∨ i = 8 ∨ i = 9 ∨ i = 10 ∨ i = 11 ∨ i = 12 ∨ i = 13 ∨ i = 14 ∨ i = 15 ∨ i = 16 ∨ i = 17 ∨ i = 18 ∨ i = 19 ∨ i = 20 ∨ i = 21 ∨ i = 22 ∨ i = 23 ∨ i = 24 ∨ i = 25 ∨ i = 26 ∨ i = 27 ∨ i = 28 ∨ i = 29 ∨ i = 30 ∨ i = 31 ∨ i = 32 ∨ i = 33 ∨ i = 34 ∨ i = 35 := by omega
              rcases hi' with rfl | rfl | rfl | rfl | rfl | rfl | rfl | rfl | rfl | rfl | rfl | rfl | rfl | rfl | rfl | rfl | rfl | rfl | rfl | rfl | rfl | rfl | rfl | rfl | rfl | rfl | rfl | rfl | rfl | rfl | rfl | rfl | rfl | rfl | rfl | rfl
              all_goals exact trivial
            case hop =>
              simp only [AllDoIn, List.take_succ_cons, List.take_zero, List.drop_succ_cons, List.drop_zero, Nat.reduceAdd]
              refine ⟨?o36, ?o37, trivial⟩
              all_goals rintro y W rfl hd Q hQ
              all_goals simp [Region.binds] at hd
              case o36 =>
                rw [if_pos (show Region.wanted _ _ = true from rfl)]
                clear hd
                gi_wp2
                first | exact ⟨_, rfl, ⟨rfl⟩, rfl⟩ | (refine ⟨.bool true, ?_, ⟨rfl⟩, rfl⟩; simp [updV]) | (refine ⟨?_, ⟨rfl⟩⟩; simp [updV])
              case o37 =>
                rw [if_pos (show Region.wanted _ _ = true from rfl)]
                have e36 : y 36 = .bool true := by simp_all
                rw [e36]
                clear hd
                gi_wp2
                first | exact ⟨_, rfl, ⟨rfl⟩, rfl⟩ | (refine ⟨.bool true, ?_, ⟨rfl⟩, rfl⟩; simp [updV, e36]) | (refine ⟨?_, ⟨rfl⟩⟩; simp [updV, e36])
            case hend =>
              rintro y W rfl hv
              have e36 : y 36 = .bool true := hv 36 (by decide)
              have e37 : y 37 = .bool true := hv 37 (by decide)
              clear hv
              rw [e36, e37]
              clear e36 e37
              refine Left.end_ ?_
              gi_wp2
              refine bodyPost_ret (results_tmp rfl _ _ _) rfl ?_
              exact .inl ⟨rfl, HRD.out, s, hr, HJ.out⟩
  | .node k v l r, p, R, s, W, h, hJ, hR, hr => by
    obtain ⟨g, la, ra, rfl, hb, hl, hrr, _, _, _, _, _⟩ := h.cells
    have IH1 := eachFalseN hC hRd hY l _ ((k, v) :: (walkL false r ++ R)) s W.drew hl (hC.drew s W hJ) (hRd W W.drew ⟨rfl, rfl⟩ hR) (by rw [hr]; simp [walkL])
    have IH2 := fun R s W => eachFalseN hC hRd hY r _ R s W hrr
    have hce : ∀ A, StayN W0 A → A.cell? ⟨g, 0, none⟩ = some (.int .u64 k) ∧ A.cell? ⟨g, 1, none⟩ = some (.int .i64 v) ∧ A.cell? ⟨g, 3, none⟩ = some (.pointer la) ∧ A.cell? ⟨g, 4, none⟩ = some (.pointer ra) := fun A hA => ⟨cell_of_row A g 0 _ _ _ (hA g _ hb), cell_of_row A g 1 _ _ _ (hA g _ hb), cell_of_row A g 3 _ _ _ (hA g _ hb), cell_of_row A g 4 _ _ _ (hA g _ hb)⟩
    obtain ⟨k0, k1, k3, k4⟩ := hce W.drew (hC.stay _ _ (hC.drew s W hJ))
    have HCE := Lib.hid hce
    have HC := Lib.hid hC
    have HY := Lib.hid hY
    have HI1 := Lib.hid IH1
    clear hC hY hRd hJ hR h hb hl hrr hce IH1 hr
    refine (callsIn_wide (n := 2)).1 ?_
    refine callsIn_of_wp Tryd.func42 rfl trivial ?_ rfl
    simp only [Tryd.ntmps42, List.size_toArray, List.length_cons, List.length_nil, Nat.reduceAdd, Nat.reduceSub, Array.replicate_succ, Array.replicate_zero, List.push_toArray, List.append_toArray, List.nil_append, List.cons_append]
    gi_wp2_with fail
    refine region_left (by kernel_rfl) ?_
    obtain ⟨W1, hW1⟩ : ∃ W1, W.drew = W1 := ⟨_, rfl⟩
    rw [hW1] at HI1 k0 k1 k3 k4 ⊢
    clear hW1
    refine Left.stageL (fun _ => trivial) 0 3 (by decide) (by decide) (by decide +kernel) (by decide +kernel) (fun y => { tmps := #[.pointer (some ⟨g, 0, none⟩), .int .i64 0, .func (.yield lx) #[] #[], undef, undef, undef, .bool false, y 0, y 1, y 2, undef, undef, undef, undef, undef, undef, undef, undef, undef, undef, undef, undef, undef, undef, undef, undef, undef, undef, undef, undef, undef, undef, undef, undef, undef, undef, undef, undef, undef, undef, undef, undef, undef, undef], defers := [] }) (fun W => W1 = W) (fun i u W => match i with
      | 0 => u = .pointer (some ⟨g, 0, none⟩)
      | 1 => u = .bool false
      | 2 => u = .bool false
      | _ => True) (fun A B => SameW A B) ?hC ?hV (fun _ => undef) ?hw ?h0 ?hop ?hend
    case hC => exact fun A B h e => h.trans e.eq
    case hV => exact fun i u A B h e => by obtain ⟨rfl⟩ := e; exact h
    case hw => exact rfl
    case h0 => exact fun i hi => by omega
    case hop =>
      simp only [AllDoIn, List.take_succ_cons, List.take_zero, List.drop_succ_cons, List.drop_zero, Nat.reduceAdd]
      refine ⟨?o0, ?o1, ?o2, trivial⟩
      all_goals rintro y W rfl hd Q hQ
      all_goals simp [Region.binds] at hd
      case o0 =>
        rw [if_pos (show Region.wanted _ _ = true from rfl)]
        clear hd
        gi_wp2
        first | exact ⟨_, rfl, ⟨rfl⟩, rfl⟩ | (refine ⟨.pointer (some ⟨g, 0, none⟩), ?_, ⟨rfl⟩, rfl⟩; simp [updV]) | (refine ⟨?_, ⟨rfl⟩⟩; simp [updV])
      case o1 =>
        rw [if_pos (show Region.wanted _ _ = true from rfl)]
        have e0 : y 0 = .pointer (some ⟨g, 0, none⟩) := by simp_all
        rw [e0]
        clear hd
        gi_wp2
        first | exact ⟨_, rfl, ⟨rfl⟩, rfl⟩ | (refine ⟨.bool false, ?_, ⟨rfl⟩, rfl⟩; simp [updV, e0]) | (refine ⟨?_, ⟨rfl⟩⟩; simp [updV, e0])
      case o2 =>
        rw [if_pos (show Region.wanted _ _ = true from rfl)]
        have e1 : y 1 = .bool false := by simp_all
        rw [e1]
        clear hd
        gi_wp2
        first | exact ⟨_, rfl, ⟨rfl⟩, rfl⟩ | (refine ⟨.bool false, ?_, ⟨rfl⟩, rfl⟩; simp [updV, e1]) | (refine ⟨?_, ⟨rfl⟩⟩; simp [updV, e1])
    case hend =>
      rintro y W rfl hv
      have e0 : y 0 = .pointer (some ⟨g, 0, none⟩) := hv 0 (by decide)
      have e1 : y 1 = .bool false := hv 1 (by decide)
      have e2 : y 2 = .bool false := hv 2 (by decide)
      clear hv
      rw [e0, e1, e2]
      clear e0 e1 e2
      refine Left.stageL (fun _ => trivial) 3 11 (by decide) (by decide) (by decide +kernel) (by decide +kernel) (fun y => { tmps := #[.pointer (some ⟨g, 0, none⟩), .int .i64 0, .func (.yield lx) #[] #[], undef, undef, undef, .bool false, .pointer (some ⟨g, 0, none⟩), .bool false, .bool false, y 3, y 4, y 5, y 6, y 7, y 8, y 9, y 10, undef, undef, undef, undef, undef, undef, undef, undef, undef, undef, undef, undef, undef, undef, undef, undef, undef, undef, undef, undef, undef, undef, undef, undef, undef, undef], defers := [] }) (fun W => W1 = W) (fun i u W => match i with
        | 3 => u = .pointer (some ⟨g, 0, none⟩)
        | 4 => u = .int .i64 0
        | 5 => u = .pointer (some ⟨g, 0, none⟩)
        | 6 => u = .pointer (some ⟨g, 3, none⟩)
        | 7 => u = .pointer (some ⟨g, 3, none⟩)
        | 8 => u = .pointer la
        | 9 => u = .int .i64 0
        | 10 => u = .func (.yield lx) #[] #[]
        | _ => True) (fun A B => SameW A B) ?hC ?hV (fun _ => undef) ?hw ?h0 ?hop ?hend
      case hC => exact fun A B h e => h.trans e.eq
      case hV => exact fun i u A B h e => by obtain ⟨rfl⟩ := e; exact h
      case hw => exact rfl
      case h0 =>
        intro i hi
        have hi' : i = 0 ∨ i = 1 ∨ i = 2 := by omega
        rcases hi' with rfl | rfl | rfl
        all_goals exact trivial
      case hop =>
        simp only [AllDoIn, List.take_succ_cons, List.take_zero, List.drop_succ_cons, List.drop_zero, Nat.reduceAdd]
        refine ⟨?o3, ?o4, ?o5, ?o6, ?o7, ?o8, ?o9, ?o10, trivial⟩
        all_goals rintro y W rfl hd Q hQ
        all_goals simp [Region.binds] at hd
        case o3 =>
          rw [if_pos (show Region.wanted _ _ = true from rfl)]
          clear hd
          gi_wp2
          first | exact ⟨_, rfl, ⟨rfl⟩, rfl⟩ | (refine ⟨.pointer (some ⟨g, 0, none⟩), ?_, ⟨rfl⟩, rfl⟩; simp [updV]) | (refine ⟨?_, ⟨rfl⟩⟩; simp [updV])
        case o4 =>
          rw [if_pos (show Region.wanted _ _ = true from rfl)]
          clear hd
          gi_wp2
          first | exact ⟨_, rfl, ⟨rfl⟩, rfl⟩ | (refine ⟨.int .i64 0, ?_, ⟨rfl⟩, rfl⟩; simp [updV]) | (refine ⟨?_, ⟨rfl⟩⟩; simp [updV])
        case o5 =>
          rw [if_pos (show Region.wanted _ _ = true from rfl)]
          have e3 : y 3 = .pointer (some ⟨g, 0, none⟩) := by simp_all
          rw [e3]
          clear hd
          gi_wp2
          first | exact ⟨_, rfl, ⟨rfl⟩, rfl⟩ | (refine ⟨.pointer (some ⟨g, 0, none⟩), ?_, ⟨rfl⟩, rfl⟩; simp [updV, e3]) | (refine ⟨?_, ⟨rfl⟩⟩; simp [updV, e3])
        case o6 =>
          rw [if_pos (show Region.wanted _ _ = true from rfl)]
          have e5 : y 5 = .pointer (some ⟨g, 0, none⟩) := by simp_all
          rw [e5]
          clear hd
          gi_wp2
          first | exact ⟨_, rfl, ⟨rfl⟩, rfl⟩ | (refine ⟨.pointer (some ⟨g, 3, none⟩), ?_, ⟨rfl⟩, rfl⟩; simp [updV, e5]) | (refine ⟨?_, ⟨rfl⟩⟩; simp [updV, e5])
        case o7 =>
          rw [if_pos (show Region.wanted _ _ = true from rfl)]
          have e6 : y 6 = .pointer (some ⟨g, 3, none⟩) := by simp_all
          have e4 : y 4 = .int .i64 0 := by simp_all
          rw [e6, e4]
          clear hd
          gi_wp2
          first | exact ⟨_, rfl, ⟨rfl⟩, rfl⟩ | (refine ⟨.pointer (some ⟨g, 3, none⟩), ?_, ⟨rfl⟩, rfl⟩; simp [updV, e6, e4]) | (refine ⟨?_, ⟨rfl⟩⟩; simp [updV, e6, e4])
        case o8 =>
          rw [if_pos (show Region.wanted _ _ = true from rfl)]
          have e7 : y 7 = .pointer (some ⟨g, 3, none⟩) := by simp_all
          rw [e7]
          clear hd
          gi_wp2
          first | exact ⟨_, rfl, ⟨rfl⟩, rfl⟩ | (refine ⟨.pointer la, ?_, ⟨rfl⟩, rfl⟩; simp [updV, e7]) | (refine ⟨?_, ⟨rfl⟩⟩; simp [updV, e7])
        case o9 =>
          rw [if_pos (show Region.wanted _ _ = true from rfl)]
          clear hd
          gi_wp2
          first | exact ⟨_, rfl, ⟨rfl⟩, rfl⟩ | (refine ⟨.int .i64 0, ?_, ⟨rfl⟩, rfl⟩; simp [updV]) | (refine ⟨?_, ⟨rfl⟩⟩; simp [updV])
        case o10 =>
          rw [if_pos (show Region.wanted _ _ = true from rfl)]
          clear hd
          gi_wp2
          first | exact ⟨_, rfl, ⟨rfl⟩, rfl⟩ | (refine ⟨.func (.yield lx) #[] #[], ?_, ⟨rfl⟩, rfl⟩; simp [updV]) | (refine ⟨?_, ⟨rfl⟩⟩; simp [updV])
      case hend =>
        rintro y W rfl hv
        have e3 : y 3 = .pointer (some ⟨g, 0, none⟩) := hv 3 (by decide)
        have e4 : y 4 = .int .i64 0 := hv 4 (by decide)
        have e5 : y 5 = .pointer (some ⟨g, 0, none⟩) := hv 5 (by decide)
        have e6 : y 6 = .pointer (some ⟨g, 3, none⟩) := hv 6 (by decide)
        have e7 : y 7 = .pointer (some ⟨g, 3, none⟩) := hv 7 (by decide)
        have e8 : y 8 = .pointer la := hv 8 (by decide)
        have e9 : y 9 = .int .i64 0 := hv 9 (by decide)
        have e10 : y 10 = .func (.yield lx) #[] #[] := hv 10 (by decide)
        clear hv
        rw [e3, e4, e5, e6, e7, e8, e9, e10]
        clear e3 e4 e5 e6 e7 e8 e9 e10
        refine Left.one (fun _ => trivial) 11 rfl (by decide +kernel) (by decide +kernel) ?_
        intro Q hQ
        rw [if_pos (show Region.wanted _ _ = true from rfl)]
        gi_wp2_with fail
        refine ⟨trivial, ?_⟩
        refine (callsIn_wide.2 HI1.out).mono ?_
        rintro e W2 (⟨rfl, hR2, s2, hr2, hJ2⟩ | ⟨rfl, c, hD, hX⟩)
        · gi_wp2
          obtain ⟨k0, k1, k3, k4⟩ := HCE.out W2 (HC.out.stay _ _ hJ2)
          obtain ⟨fn, tmps, assign, body, hy, hRR⟩ := HY.out s2 (k, v) W2 hR2 (HC.out.yield s2 W2 (k, v) _ hJ2 hr2)
          have HRR := Lib.hid (round_wide (m' := 1) hRR)
          have HR2 := Lib.hid hr2
          clear hRR hR2 hJ2 hr2
          refine Left.stageL (fun _ => trivial) 12 13 (by decide) (by decide) (by decide +kernel) (by decide +kernel) (fun y => { tmps := #[.pointer (some ⟨g, 0, none⟩), .int .i64 0, .func (.yield lx) #[] #[], undef, undef, undef, .bool false, .pointer (some ⟨g, 0, none⟩), .bool false, .bool false, .pointer (some ⟨g, 0, none⟩), .int .i64 0, .pointer (some ⟨g, 0, none⟩), .pointer (some ⟨g, 3, none⟩), .pointer (some ⟨g, 3, none⟩), .pointer la, .int .i64 0, .func (.yield lx) #[] #[], .bool true, y 12, undef, undef, undef, undef, undef, undef, undef, undef, undef, undef, undef, undef, undef, undef, undef, undef, undef, undef, undef, undef, undef, undef, undef, undef], defers := [] }) (fun W => W2 = W) (fun i u W => match i with
            | 12 => u = .bool true
            | _ => True) (fun A B => SameW A B) ?hC ?hV (fun _ => undef) ?hw ?h0 ?hop ?hend
          case hC => exact fun A B h e => h.trans e.eq
          case hV => exact fun i u A B h e => by obtain ⟨rfl⟩ := e; exact h
          case hw => exact rfl
          case h0 =>
            intro i hi
            have hi' : i = 0 ∨ i = 1 ∨ i = 2 ∨ i = 3 ∨ i = 4 ∨ i = 5 ∨ i = 6 ∨ i = 7 ∨ i = 8 ∨ i = 9 ∨ i = 10 ∨ i = 11 := by omega
            rcases hi' with rfl | rfl | rfl | rfl | rfl | rfl | rfl | rfl | rfl | rfl | rfl | rfl
            all_goals exact trivial
          case hop =>
            simp only [AllDoIn, List.take_succ_cons, List.take_zero, List.drop_succ_cons, List.drop_zero, Nat.reduceAdd]
            refine ⟨?o12, trivial⟩
            all_goals rintro y W rfl hd Q hQ
            all_goals simp [Region.binds] at hd
            case o12 =>
              rw [if_pos (show Region.wanted _ _ = true from rfl)]
              clear hd
              gi_wp2
              first | exact ⟨_, rfl, ⟨rfl⟩, rfl⟩ | (refine ⟨.bool true, ?_, ⟨rfl⟩, rfl⟩; simp [updV]) | (refine ⟨?_, ⟨rfl⟩⟩; simp [updV])
          case hend =>
            rintro y W rfl hv
            have e12 : y 12 = .bool true := hv 12 (by decide)
            clear hv
            rw [e12]
            clear e12
            refine Left.stageL (fun _ => trivial) 13 22 (by decide) (by decide) (by decide +kernel) (by decide +kernel) (fun y => { tmps := #[.pointer (some ⟨g, 0, none⟩), .int .i64 0, .func (.yield lx) #[] #[], undef, undef, undef, .bool false, .pointer (some ⟨g, 0, none⟩), .bool false, .bool false, .pointer (some ⟨g, 0, none⟩), .int .i64 0, .pointer (some ⟨g, 0, none⟩), .pointer (some ⟨g, 3, none⟩), .pointer (some ⟨g, 3, none⟩), .pointer la, .int .i64 0, .func (.yield lx) #[] #[], .bool true, .bool true, y 13, y 14, y 15, y 16, y 17, y 18, y 19, y 20, y 21, undef, undef, undef, undef, undef, undef, undef, undef, undef, undef, undef, undef, undef, undef, undef], defers := [] }) (fun W => W2 = W) (fun i u W => match i with
              | 13 => u = .func (.yield lx) #[] #[]
              | 14 => u = .pointer (some ⟨g, 0, none⟩)
              | 15 => u = .pointer (some ⟨g, 0, none⟩)
              | 16 => u = .pointer (some ⟨g, 0, none⟩)
              | 17 => u = .int .u64 k
              | 18 => u = .pointer (some ⟨g, 0, none⟩)
              | 19 => u = .pointer (some ⟨g, 0, none⟩)
              | 20 => u = .pointer (some ⟨g, 1, none⟩)
              | 21 => u = .int .i64 v
              | _ => True) (fun A B => SameW A B) ?hC ?hV (fun _ => undef) ?hw ?h0 ?hop ?hend
            case hC => exact fun A B h e => h.trans e.eq
            case hV => exact fun i u A B h e => by obtain ⟨rfl⟩ := e; exact h
            case hw => exact rfl
            case h0 =>
              intro i hi
              have hi' : i = 0 ∨ i = 1 ∨ i = 2 ∨ i = 3 ∨ i = 4 ∨ i = 5 ∨ i = 6 ∨ i = 7 ∨ i = 8 ∨ i = 9 ∨ i = 10 ∨ i = 11 ∨ i = 12 := by omega
              rcases hi' with rfl | rfl | rfl | rfl | rfl | rfl | rfl | rfl | rfl | rfl | rfl | rfl | rfl
              all_goals exact trivial
            case hop =>
              simp only [AllDoIn, List.take_succ_cons, List.take_zero, List.drop_succ_cons, List.drop_zero, Nat.reduceAdd]
              refine ⟨?o13, ?o14, ?o15, ?o16, ?o17, ?o18, ?o19, ?o20, ?o21, trivial⟩
              all_goals rintro y W rfl hd Q hQ
              all_goals simp [Region.binds] at hd
              case o13 =>
                rw [if_pos (show Region.wanted _ _ = true from rfl)]
                clear hd
                gi_wp2
                first | exact ⟨_, rfl, ⟨rfl⟩, rfl⟩ | (refine ⟨.func (.yield lx) #[] #[], ?_, ⟨rfl⟩, rfl⟩; simp [updV]) | (refine ⟨?_, ⟨rfl⟩⟩; simp [updV])
              case o14 =>
                rw [if_pos (show Region.wanted _ _ = true from rfl)]
                clear hd
                gi_wp2
                first | exact ⟨_, rfl, ⟨rfl⟩, rfl⟩ | (refine ⟨.pointer (some ⟨g, 0, none⟩), ?_, ⟨rfl⟩, rfl⟩; simp [updV]) | (refine ⟨?_, ⟨rfl⟩⟩; simp [updV])
              case o15 =>
                rw [if_pos (show Region.wanted _ _ = true from rfl)]
                have e14 : y 14 = .pointer (some ⟨g, 0, none⟩) := by simp_all
                rw [e14]
                clear hd
                gi_wp2
                first | exact ⟨_, rfl, ⟨rfl⟩, rfl⟩ | (refine ⟨.pointer (some ⟨g, 0, none⟩), ?_, ⟨rfl⟩, rfl⟩; simp [updV, e14]) | (refine ⟨?_, ⟨rfl⟩⟩; simp [updV, e14])
              case o16 =>
                rw [if_pos (show Region.wanted _ _ = true from rfl)]
                have e15 : y 15 = .pointer (some ⟨g, 0, none⟩) := by simp_all
                rw [e15]
                clear hd
                gi_wp2
                first | exact ⟨_, rfl, ⟨rfl⟩, rfl⟩ | (refine ⟨.pointer (some ⟨g, 0, none⟩), ?_, ⟨rfl⟩, rfl⟩; simp [updV, e15]) | (refine ⟨?_, ⟨rfl⟩⟩; simp [updV, e15])
              case o17 =>
                rw [if_pos (show Region.wanted _ _ = true from rfl)]
                have e16 : y 16 = .pointer (some ⟨g, 0, none⟩) := by simp_all
                rw [e16]
                clear hd
                gi_wp2
                first | exact ⟨_, rfl, ⟨rfl⟩, rfl⟩ | (refine ⟨.int .u64 k, ?_, ⟨rfl⟩, rfl⟩; simp [updV, e16]) | (refine ⟨?_, ⟨rfl⟩⟩; simp [updV, e16])
              case o18 =>
                rw [if_pos (show Region.wanted _ _ = true from rfl)]
                clear hd
                gi_wp2
                first | exact ⟨_, rfl, ⟨rfl⟩, rfl⟩ | (refine ⟨.pointer (some ⟨g, 0, none⟩), ?_, ⟨rfl⟩, rfl⟩; simp [updV]) | (refine ⟨?_, ⟨rfl⟩⟩; simp [updV])
              case o19 =>
                rw [if_pos (show Region.wanted _ _ = true from rfl)]
                have e18 : y 18 = .pointer (some ⟨g, 0, none⟩) := by simp_all
                rw [e18]
                clear hd
                gi_wp2
                first | exact ⟨_, rfl, ⟨rfl⟩, rfl⟩ | (refine ⟨.pointer (some ⟨g, 0, none⟩), ?_, ⟨rfl⟩, rfl⟩; simp [updV, e18]) | (refine ⟨?_, ⟨rfl⟩⟩; simp [updV, e18])
              case o20 =>
                rw [if_pos (show Region.wanted _ _ = true from rfl)]
                have e19 : y 19 = .pointer (some ⟨g, 0, none⟩) := by simp_all
                rw [e19]
                clear hd
                gi_wp2
                first | exact ⟨_, rfl, ⟨rfl⟩, rfl⟩ | (refine ⟨.pointer (some ⟨g, 1, none⟩), ?_, ⟨rfl⟩, rfl⟩; simp [updV, e19]) | (refine ⟨?_, ⟨rfl⟩⟩; simp [updV, e19])
              case o21 =>
                rw [if_pos (show Region.wanted _ _ = true from rfl)]
                have e20 : y 20 = .pointer (some ⟨g, 1, none⟩) := by simp_all
                rw [e20]
                clear hd
                gi_wp2
                first | exact ⟨_, rfl, ⟨rfl⟩, rfl⟩ | (refine ⟨.int .i64 v, ?_, ⟨rfl⟩, rfl⟩; simp [updV, e20]) | (refine ⟨?_, ⟨rfl⟩⟩; simp [updV, e20])
            case hend =>
              rintro y W rfl hv
              have e13 : y 13 = .func (.yield lx) #[] #[] := hv 13 (by decide)
              have e14 : y 14 = .pointer (some ⟨g, 0, none⟩) := hv 14 (by decide)
              have e15 : y 15 = .pointer (some ⟨g, 0, none⟩) := hv 15 (by decide)
              have e16 : y 16 = .pointer (some ⟨g, 0, none⟩) := hv 16 (by decide)
              have e17 : y 17 = .int .u64 k := hv 17 (by decide)
              have e18 : y 18 = .pointer (some ⟨g, 0, none⟩) := hv 18 (by decide)
              have e19 : y 19 = .pointer (some ⟨g, 0, none⟩) := hv 19 (by decide)
              have e20 : y 20 = .pointer (some ⟨g, 1, none⟩) := hv 20 (by decide)
              have e21 : y 21 = .int .i64 v := hv 21 (by decide)
              clear hv
              rw [e13, e14, e15, e16, e17, e18, e19, e20, e21]
              clear e13 e14 e15 e16 e17 e18 e19 e20 e21
              refine Left.one (fun _ => trivial) 22 rfl (by decide +kernel) (by decide +kernel) ?_
              intro Q hQ
              rw [if_pos (show Region.wanted _ _ = true from rfl)]
              gi_wp2_with fail
              refine HRR.out.mono ?_
              rintro e W3 (⟨rfl, hR3, s3, hA3, hJ3⟩ | ⟨rfl, c, hD, hX⟩)
              · gi_wp2
                obtain ⟨k0, k1, k3, k4⟩ := HCE.out W3 (HC.out.stay _ _ hJ3)
                have hn3 := HC.out.next _ _ hA3
                rw [HR2.out, List.tail_cons] at hn3
                have HI2 := Lib.hid (IH2 R s3 W3 hJ3 hR3 hn3)
                clear hn3 hJ3 hR3 hA3 HRR hy
                refine Left.stageL (fun _ => trivial) 23 25 (by decide) (by decide) (by decide +kernel) (by decide +kernel) (fun y => { tmps := #[.pointer (some ⟨g, 0, none⟩), .int .i64 0, .func (.yield lx) #[] #[], undef, undef, undef, .bool false, .pointer (some ⟨g, 0, none⟩), .bool false, .bool false, .pointer (some ⟨g, 0, none⟩), .int .i64 0, .pointer (some ⟨g, 0, none⟩), .pointer (some ⟨g, 3, none⟩), .pointer (some ⟨g, 3, none⟩), .pointer la, .int .i64 0, .func (.yield lx) #[] #[], .bool true, .bool true, .func (.yield lx) #[] #[], .pointer (some ⟨g, 0, none⟩), .pointer (some ⟨g, 0, none⟩), .pointer (some ⟨g, 0, none⟩), .int .u64 k, .pointer (some ⟨g, 0, none⟩), .pointer (some ⟨g, 0, none⟩), .pointer (some ⟨g, 1, none⟩), .int .i64 v, .bool true, y 23, y 24, undef, undef, undef, undef, undef, undef, undef, undef, undef, undef, undef, undef], defers := [] }) (fun W => W3 = W) (fun i u W => match i with
                  | 23 => u = .bool true
                  | 24 => u = .bool true
                  | _ => True) (fun A B => SameW A B) ?hC ?hV (fun _ => undef) ?hw ?h0 ?hop ?hend
                case hC => exact fun A B h e => h.trans e.eq
                case hV => exact fun i u A B h e => by obtain ⟨rfl⟩ := e; exact h
                case hw => exact rfl
                case h0 =>
                  intro i hi
                  have hi' : i = 0 ∨ i = 1 ∨ i = 2 ∨ i = 3 ∨ i = 4 ∨ i = 5 ∨ i = 6 ∨ i = 7 ∨ i = 8 ∨ i = 9 ∨ i = 10 ∨ i = 11 ∨ i = 12 ∨ i = 13 ∨ i = 14 ∨ i = 15 ∨ i = 16 ∨ i = 17 ∨ i = 18 ∨ i = 19 ∨ i = 20 ∨ i = 21 ∨ i = 22 := by omega
                  rcases hi' with rfl | rfl | rfl | rfl | rfl | rfl | rfl | rfl | rfl | rfl | rfl | rfl | rfl | rfl | rfl | rfl | rfl | rfl | rfl | rfl | rfl | rfl | rfl
                  all_goals exact trivial
                case hop =>
                  simp only [AllDoIn, List.take_succ_cons, List.take_zero, List.drop_succ_cons, List.drop_zero, Nat.reduceAdd]
                  refine ⟨?o23, ?o24, trivial⟩
                  all_goals rintro y W rfl hd Q hQ
                  all_goals simp [Region.binds] at hd
                  case o23 =>
                    rw [if_pos (show Region.wanted _ _ = true from rfl)]
                    clear hd
                    gi_wp2
                    first | exact ⟨_, rfl, ⟨rfl⟩, rfl⟩ | (refine ⟨.bool true, ?_, ⟨rfl⟩, rfl⟩; simp [updV]) | (refine ⟨?_, ⟨rfl⟩⟩; simp [updV])
                  case o24 =>
                    rw [if_pos (show Region.wanted _ _ = true from rfl)]
                    have e23 : y 23 = .bool true := by simp_all
                    rw [e23]
                    clear hd
                    gi_wp2
                    first | exact ⟨_, rfl, ⟨rfl⟩, rfl⟩ | (refine ⟨.bool true, ?_, ⟨rfl⟩, rfl⟩; simp [updV, e23]) | (refine ⟨?_, ⟨rfl⟩⟩; simp [updV, e23])
                case hend =>
                  rintro y W rfl hv
                  have e23 : y 23 = .bool true := hv 23 (by decide)
                  have e24 : y 24 = .bool true := hv 24 (by decide)
                  clear hv
                  rw [e23, e24]
                  clear e23 e24
                  refine Left.stageL (fun _ => trivial) 25 34 (by decide) (by decide) (by decide +kernel) (by decide +kernel) (fun y => { tmps := #[.pointer (some ⟨g, 0, none⟩), .int .i64 0, .func (.yield lx) #[] #[], undef, undef, undef, .bool false, .pointer (some ⟨g, 0, none⟩), .bool false, .bool false, .pointer (some ⟨g, 0, none⟩), .int .i64 0, .pointer (some ⟨g, 0, none⟩), .pointer (some ⟨g, 3, none⟩), .pointer (some ⟨g, 3, none⟩), .pointer la, .int .i64 0, .func (.yield lx) #[] #[], .bool true, .bool true, .func (.yield lx) #[] #[], .pointer (some ⟨g, 0, none⟩), .pointer (some ⟨g, 0, none⟩), .pointer (some ⟨g, 0, none⟩), .int .u64 k, .pointer (some ⟨g, 0, none⟩), .pointer (some ⟨g, 0, none⟩), .pointer (some ⟨g, 1, none⟩), .int .i64 v, .bool true, .bool true, .bool true, y 25, y 26, y 27, y 28, y 29, y 30, y 31, y 32, y 33, undef, undef, undef], defers := [] }) (fun W => W3 = W) (fun i u W => match i with
                    | 25 => u = .pointer (some ⟨g, 0, none⟩)
                    | 26 => u = .int .i64 0
                    | 27 => u = .int .i64 1
                    | 28 => u = .pointer (some ⟨g, 0, none⟩)
                    | 29 => u = .pointer (some ⟨g, 3, none⟩)
                    | 30 => u = .pointer (some ⟨g, 4, none⟩)
                    | 31 => u = .pointer ra
                    | 32 => u = .int .i64 0
                    | 33 => u = .func (.yield lx) #[] #[]
                    | _ => True) (fun A B => SameW A B) ?hC ?hV (fun _ => undef) ?hw ?h0 ?hop ?hend
                  case hC => exact fun A B h e => h.trans e.eq
                  case hV => exact fun i u A B h e => by obtain ⟨rfl⟩ := e; exact h
                  case hw => exact rfl
                  case h0 =>
                    intro i hi
                    have hi' : i = 0 ∨ i = 1 ∨ i = 2 ∨ i = 3 ∨ i = 4 ∨ i = 5 ∨ i = 6 ∨ i = 7 ∨ i = 8 ∨ i = 9 ∨ i = 10 ∨ i = 11 ∨ i = 12 ∨ i = 13 ∨ i = 14 ∨ i = 15 ∨ i = 16 ∨ i = 17 ∨ i = 18 ∨ i = 19 ∨ i = 20 ∨ i = 21 ∨ i = 22 ∨ i = 23 ∨ i = 24 := by omega
                    rcases hi' with rfl | rfl | rfl | rfl | rfl | rfl | rfl | rfl | rfl | rfl | rfl | rfl | rfl | rfl | rfl | rfl | rfl | rfl | rfl | rfl | rfl | rfl | rfl | rfl | rfl
                    all_goals exact trivial
                  case hop =>
                    simp only [AllDoIn, List.take_succ_cons, List.take_zero, List.drop_succ_cons, List.drop_zero, Nat.reduceAdd]
                    refine ⟨?o25, ?o26, ?o27, ?o28, ?o29, ?o30, ?o31, ?o32, ?o33, trivial⟩
                    all_goals rintro y W rfl hd Q hQ
                    all_goals simp [Region.binds] at hd
                    case o25 =>
                      rw [if_pos (show Region.wanted _ _ = true from rfl)]
                      clear hd
                      gi_wp2
                      first | exact ⟨_, rfl, ⟨rfl⟩, rfl⟩ | (refine ⟨.pointer (some ⟨g, 0, none⟩), ?_, ⟨rfl⟩, rfl⟩; simp [updV]) | (refine ⟨?_, ⟨rfl⟩⟩; simp [updV])
                    case o26 =>
                      rw [if_pos (show Region.wanted _ _ = true from rfl)]
                      clear hd
                      gi_wp2
                      first | exact ⟨_, rfl, ⟨rfl⟩, rfl⟩ | (refine ⟨.int .i64 0, ?_, ⟨rfl⟩, rfl⟩; simp [updV]) | (refine ⟨?_, ⟨rfl⟩⟩; simp [updV])
                    case o27 =>
                      rw [if_pos (show Region.wanted _ _ = true from rfl)]
                      have e26 : y 26 = .int .i64 0 := by simp_all
                      rw [e26]
                      clear hd
                      gi_wp2
                      first | exact ⟨_, rfl, ⟨rfl⟩, rfl⟩ | (refine ⟨.int .i64 1, ?_, ⟨rfl⟩, rfl⟩; simp [updV, e26]) | (refine ⟨?_, ⟨rfl⟩⟩; simp [updV, e26])
                    case o28 =>
                      rw [if_pos (show Region.wanted _ _ = true from rfl)]
                      have e25 : y 25 = .pointer (some ⟨g, 0, none⟩) := by simp_all
                      rw [e25]
                      clear hd
                      gi_wp2
                      first | exact ⟨_, rfl, ⟨rfl⟩, rfl⟩ | (refine ⟨.pointer (some ⟨g, 0, none⟩), ?_, ⟨rfl⟩, rfl⟩; simp [updV, e25]) | (refine ⟨?_, ⟨rfl⟩⟩; simp [updV, e25])
                    case o29 =>
                      rw [if_pos (show Region.wanted _ _ = true from rfl)]
                      have e28 : y 28 = .pointer (some ⟨g, 0, none⟩) := by simp_all
                      rw [e28]
                      clear hd
                      gi_wp2
                      first | exact ⟨_, rfl, ⟨rfl⟩, rfl⟩ | (refine ⟨.pointer (some ⟨g, 3, none⟩), ?_, ⟨rfl⟩, rfl⟩; simp [updV, e28]) | (refine ⟨?_, ⟨rfl⟩⟩; simp [updV, e28])
                    case o30 =>
                      rw [if_pos (show Region.wanted _ _ = true from rfl)]
                      have e29 : y 29 = .pointer (some ⟨g, 3, none⟩) := by simp_all
                      have e27 : y 27 = .int .i64 1 := by simp_all
                      rw [e29, e27]
                      clear hd
                      gi_wp2
                      first | exact ⟨_, rfl, ⟨rfl⟩, rfl⟩ | (refine ⟨.pointer (some ⟨g, 4, none⟩), ?_, ⟨rfl⟩, rfl⟩; simp [updV, e29, e27]) | (refine ⟨?_, ⟨rfl⟩⟩; simp [updV, e29, e27])
                    case o31 =>
                      rw [if_pos (show Region.wanted _ _ = true from rfl)]
                      have e30 : y 30 = .pointer (some ⟨g, 4, none⟩) := by simp_all
                      rw [e30]
                      clear hd
                      gi_wp2
                      first | exact ⟨_, rfl, ⟨rfl⟩, rfl⟩ | (refine ⟨.pointer ra, ?_, ⟨rfl⟩, rfl⟩; simp [updV, e30]) | (refine ⟨?_, ⟨rfl⟩⟩; simp [updV, e30])
                    case o32 =>
                      rw [if_pos (show Region.wanted _ _ = true from rfl)]
                      clear hd
                      gi_wp2
                      first | exact ⟨_, rfl, ⟨rfl⟩, rfl⟩ | (refine ⟨.int .i64 0, ?_, ⟨rfl⟩, rfl⟩; simp [updV]) | (refine ⟨?_, ⟨rfl⟩⟩; simp [updV])
                    case o33 =>
                      rw [if_pos (show Region.wanted _ _ = true from rfl)]
                      clear hd
                      gi_wp2
                      first | exact ⟨_, rfl, ⟨rfl⟩, rfl⟩ | (refine ⟨.func (.yield lx) #[] #[], ?_, ⟨rfl⟩, rfl⟩; simp [updV]) | (refine ⟨?_, ⟨rfl⟩⟩; simp [updV])
                  case hend =>
                    rintro y W rfl hv
                    have e25 : y 25 = .pointer (some ⟨g, 0, none⟩) := hv 25 (by decide)
                    have e26 : y 26 = .int .i64 0 := hv 26 (by decide)
                    have e27 : y 27 = .int .i64 1 := hv 27 (by decide)
                    have e28 : y 28 = .pointer (some ⟨g, 0, none⟩) := hv 28 (by decide)
                    have e29 : y 29 = .pointer (some ⟨g, 3, none⟩) := hv 29 (by decide)
                    have e30 : y 30 = .pointer (some ⟨g, 4, none⟩) := hv 30 (by decide)
                    have e31 : y 31 = .pointer ra := hv 31 (by decide)
                    have e32 : y 32 = .int .i64 0 := hv 32 (by decide)
                    have e33 : y 33 = .func (.yield lx) #[] #[] := hv 33 (by decide)
                    clear hv
                    rw [e25, e26, e27, e28, e29, e30, e31, e32, e33]
                    clear e25 e26 e27 e28 e29 e30 e31 e32 e33
                    refine Left.one (fun _ => trivial) 34 rfl (by decide +kernel) (by decide +kernel) ?_
                    intro Q hQ
                    rw [if_pos (show Region.wanted _ _ = true from rfl)]
                    gi_wp2_with fail
                    refine ⟨trivial, ?_⟩
                    refine (callsIn_wide.2 HI2.out).mono ?_
                    rintro e W4 (⟨rfl, hR4, s4, hr4, hJ4⟩ | ⟨rfl, c, hD, hX⟩)
                    · gi_wp2
                      refine Left.stageL (fun _ => trivial) 35 38 (by decide) (by decide) (by decide +kernel) (by decide +kernel) (fun y => { tmps := #[.pointer (some ⟨g, 0, none⟩), .int .i64 0, .func (.yield lx) #[] #[], undef, undef, undef, y 37, .pointer (some ⟨g, 0, none⟩), .bool false, .bool false, .pointer (some ⟨g, 0, none⟩), .int .i64 0, .pointer (some ⟨g, 0, none⟩), .pointer (some ⟨g, 3, none⟩), .pointer (some ⟨g, 3, none⟩), .pointer la, .int .i64 0, .func (.yield lx) #[] #[], .bool true, .bool true, .func (.yield lx) #[] #[], .pointer (some ⟨g, 0, none⟩), .pointer (some ⟨g, 0, none⟩), .pointer (some ⟨g, 0, none⟩), .int .u64 k, .pointer (some ⟨g, 0, none⟩), .pointer (some ⟨g, 0, none⟩), .pointer (some ⟨g, 1, none⟩), .int .i64 v, .bool true, .bool true, .bool true, .pointer (some ⟨g, 0, none⟩), .int .i64 0, .int .i64 1, .pointer (some ⟨g, 0, none⟩), .pointer (some ⟨g, 3, none⟩), .pointer (some ⟨g, 4, none⟩), .pointer ra, .int .i64 0, .func (.yield lx) #[] #[], .bool true, y 35, y 36], defers := [] }) (fun W => W4 = W) (fun i u W => match i with
                        | 35 => u = .bool true
                        | 36 => u = .bool true
                        | 37 => u = .bool true
                        | _ => True) (fun A B => SameW A B) ?hC ?hV (fun i => if i = 37 then .bool false else undef) ?hw ?h0 ?hop ?hend
                      case hC => exact fun A B h e => h.trans e.eq
                      case hV => exact fun i u A B h e => by obtain ⟨rfl⟩ := e; exact h
                      case hw => exact rfl
                      case h0 =>
                        intro i hi
                        have hi' : i = 0 ∨ i = 1 ∨ i = 2 ∨ i = 3 ∨ i = 4 ∨ i = 5 ∨ i = 6 ∨ i = 7 ∨ i = 8 ∨ i = 9 ∨ i = 10 ∨ i = 11 ∨ i = 12 ∨ i = 13 ∨ i = 14 ∨ i = 15 ∨ i = 16 ∨ i = 17 ∨ i = 18 ∨ i = 19 ∨ i = 20 ∨ i = 21 ∨ i = 22 ∨ i = 23 ∨ i = 24 ∨ i = 25 ∨ i = 26 ∨ i = 27 ∨ i = 28 ∨ i = 29 ∨ i = 30 ∨ i = 31 ∨ i = 32 ∨ i = 33 ∨ i = 34 := by omega
                        rcases hi' with rfl | rfl | rfl | rfl | rfl | rfl | rfl | rfl | rfl | rfl | rfl | rfl | rfl | rfl | rfl | rfl | rfl | rfl | rfl | rfl | rfl | rfl | rfl | rfl | rfl | rfl | rfl | rfl | rfl | rfl | rfl | rfl | rfl | rfl | rfl
                        all_goals exact trivial
                      case hop =>
                        simp only [AllDoIn, List.take_succ_cons, List.take_zero, List.drop_succ_cons, List.drop_zero, Nat.reduceAdd]
                        refine ⟨?o35, ?o36, ?o37, trivial⟩
                        all_goals rintro y W rfl hd Q hQ
                        all_goals simp [Region.binds] at hd
                        case o35 =>
                          rw [if_pos (show Region.wanted _ _ = true from rfl)]
                          clear hd
                          gi_wp2
                          first | exact ⟨_, rfl, ⟨rfl⟩, rfl⟩ | (refine ⟨.bool true, ?_, ⟨rfl⟩, rfl⟩; simp [updV]) | (refine ⟨?_, ⟨rfl⟩⟩; simp [updV])
                        case o36 =>
                          rw [if_pos (show Region.wanted _ _ = true from rfl)]
                          have e35 : y 35 = .bool true := by simp_all
                          rw [e35]
                          clear hd
                          gi_wp2
                          first | exact ⟨_, rfl, ⟨rfl⟩, rfl⟩ | (refine ⟨.bool true, ?_, ⟨rfl⟩, rfl⟩; simp [updV, e35]) | (refine ⟨?_, ⟨rfl⟩⟩; simp [updV, e35])
                        case o37 =>
                          rw [if_pos (show Region.wanted _ _ = true from rfl)]
                          have e36 : y 36 = .bool true := by simp_all
                          rw [e36]
                          clear hd
                          gi_wp2
                          first | exact ⟨_, rfl, ⟨rfl⟩, rfl⟩ | (refine ⟨.bool true, ?_, ⟨rfl⟩, rfl⟩; simp [updV, e36]) | (refine ⟨?_, ⟨rfl⟩⟩; simp [updV, e36])
                      case hend =>
                        rintro y W rfl hv
                        have e35 : y 35 = .bool true := hv 35 (by decide)
                        have e36 : y 36 = .bool true := hv 36 (by decide)
                        have e37 : y 37 = .bool true := hv 37 (by decide)
                        clear hv
                        rw [e35, e36, e37]
                        clear e35 e36 e37
                        refine Left.end_ ?_
                        gi_wp2
                        refine bodyPost_ret (results_tmp rfl _ _ _) rfl ?_
                        exact .inl ⟨rfl, hR4, s4, hr4, hJ4⟩
                    · gi_wp2
                      refine Left.stageL (fun _ => trivial) 35 38 (by decide) (by decide) (by decide +kernel) (by decide +kernel) (fun y => { tmps := #[.pointer (some ⟨g, 0, none⟩), .int .i64 0, .func (.yield lx) #[] #[], undef, undef, undef, y 37, .pointer (some ⟨g, 0, none⟩), .bool false, .bool false, .pointer (some ⟨g, 0, none⟩), .int .i64 0, .pointer (some ⟨g, 0, none⟩), .pointer (some ⟨g, 3, none⟩), .pointer (some ⟨g, 3, none⟩), .pointer la, .int .i64 0, .func (.yield lx) #[] #[], .bool true, .bool true, .func (.yield lx) #[] #[], .pointer (some ⟨g, 0, none⟩), .pointer (some ⟨g, 0, none⟩), .pointer (some ⟨g, 0, none⟩), .int .u64 k, .pointer (some ⟨g, 0, none⟩), .pointer (some ⟨g, 0, none⟩), .pointer (some ⟨g, 1, none⟩), .int .i64 v, .bool true, .bool true, .bool true, .pointer (some ⟨g, 0, none⟩), .int .i64 0, .int .i64 1, .pointer (some ⟨g, 0, none⟩), .pointer (some ⟨g, 3, none⟩), .pointer (some ⟨g, 4, none⟩), .pointer ra, .int .i64 0, .func (.yield lx) #[] #[], .bool false, y 35, y 36], defers := [] }) (fun W => W4 = W) (fun i u W => match i with
                        | 35 => u = .bool false
                        | 36 => u = .bool false
                        | 37 => u = .bool false
                        | _ => True) (fun A B => SameW A B) ?hC ?hV (fun i => if i = 37 then .bool false else undef) ?hw ?h0 ?hop ?hend
                      case hC => exact fun A B h e => h.trans e.eq
                      case hV => exact fun i u A B h e => by obtain ⟨rfl⟩ := e; exact h
                      case hw => exact rfl
                      case h0 =>
                        intro i hi
                        have hi' : i = 0 ∨ i = 1 ∨ i = 2 ∨ i = 3 ∨ i = 4 ∨ i = 5 ∨ i = 6 ∨ i = 7 ∨ i = 8 ∨ i = 9 ∨ i = 10 ∨ i = 11 ∨ i = 12 ∨ i = 13 ∨ i = 14 ∨ i = 15 ∨ i = 16 ∨ i = 17 ∨ i = 18 ∨ i = 19 ∨ i = 20 ∨ i = 21 ∨ i = 22 ∨ i = 23 ∨ i = 24 ∨ i = 25 ∨ i = 26 ∨ i = 27 ∨ i = 28 ∨ i = 29 ∨ i = 30 ∨ i = 31 ∨ i = 32 ∨ i = 33 ∨ i = 34 := by omega
                        rcases hi' with rfl | rfl | rfl | rfl | rfl | rfl | rfl | rfl | rfl | rfl | rfl | rfl | rfl | rfl | rfl | rfl | rfl | rfl | rfl | rfl | rfl | rfl | rfl | rfl | rfl | rfl | rfl | rfl | rfl | rfl | rfl | rfl | rfl | rfl | rfl
                        all_goals exact trivial
                      case hop =>
                        simp only [AllDoIn, List.take_succ_cons, List.take_zero, List.drop_succ_cons, List.drop_zero, Nat.reduceAdd]
                        refine ⟨?o35, ?o36, ?o37, trivial⟩
                        all_goals rintro y W rfl hd Q hQ
                        all_goals simp [Region.binds] at hd
                        case o35 =>
                          rw [if_pos (show Region.wanted _ _ = true from rfl)]
                          clear hd
                          gi_wp2
                          first | exact ⟨_, rfl, ⟨rfl⟩, rfl⟩ | (refine ⟨.bool false, ?_, ⟨rfl⟩, rfl⟩; simp [updV]) | (refine ⟨?_, ⟨rfl⟩⟩; simp [updV])
                        case o36 =>
                          rw [if_pos (show Region.wanted _ _ = true from rfl)]
                          have e35 : y 35 = .bool false := by simp_all
                          rw [e35]
                          clear hd
                          gi_wp2
                          first | exact ⟨_, rfl, ⟨rfl⟩, rfl⟩ | (refine ⟨.bool false, ?_, ⟨rfl⟩, rfl⟩; simp [updV, e35]) | (refine ⟨?_, ⟨rfl⟩⟩; simp [updV, e35])
                        case o37 =>
                          rw [if_pos (show Region.wanted _ _ = true from rfl)]
                          have e36 : y 36 = .bool false := by simp_all
                          rw [e36]
                          clear hd
                          gi_wp2
                          first | exact ⟨_, rfl, ⟨rfl⟩, rfl⟩ | (refine ⟨.bool false, ?_, ⟨rfl⟩, rfl⟩; simp [updV, e36]) | (refine ⟨?_, ⟨rfl⟩⟩; simp [updV, e36])
                      case hend =>
                        rintro y W rfl hv
                        have e35 : y 35 = .bool false := hv 35 (by decide)
                        have e36 : y 36 = .bool false := hv 36 (by decide)
                        have e37 : y 37 = .bool false := hv 37 (by decide)
                        clear hv
                        rw [e35, e36, e37]
                        clear e35 e36 e37
                        refine Left.end_ ?_
                        gi_wp2
                        refine bodyPost_ret (results_tmp rfl _ _ _) rfl ?_
                        exact .inr ⟨rfl, c, hD, hX⟩
              · gi_wp2
                refine Left.stageL (fun _ => trivial) 23 25 (by decide) (by decide) (by decide +kernel) (by decide +kernel) (fun y => { tmps := #[.pointer (some ⟨g, 0, none⟩), .int .i64 0, .func (.yield lx) #[] #[], undef, undef, undef, .bool false, .pointer (some ⟨g, 0, none⟩), .bool false, .bool false, .pointer (some ⟨g, 0, none⟩), .int .i64 0, .pointer (some ⟨g, 0, none⟩), .pointer (some ⟨g, 3, none⟩), .pointer (some ⟨g, 3, none⟩), .pointer la, .int .i64 0, .func (.yield lx) #[] #[], .bool true, .bool true, .func (.yield lx) #[] #[], .pointer (some ⟨g, 0, none⟩), .pointer (some ⟨g, 0, none⟩), .pointer (some ⟨g, 0, none⟩), .int .u64 k, .pointer (some ⟨g, 0, none⟩), .pointer (some ⟨g, 0, none⟩), .pointer (some ⟨g, 1, none⟩), .int .i64 v, .bool false, y 23, y 24, undef, undef, undef, undef, undef, undef, undef, undef, undef, undef, undef, undef], defers := [] }) (fun W => W3 = W) (fun i u W => match i with
                  | 23 => u = .bool false
                  | 24 => u = .bool false
                  | _ => True) (fun A B => SameW A B) ?hC ?hV (fun _ => undef) ?hw ?h0 ?hop ?hend
                case hC => exact fun A B h e => h.trans e.eq
                case hV => exact fun i u A B h e => by obtain ⟨rfl⟩ := e; exact h
                case hw => exact rfl
                case h0 =>
                  intro i hi
                  have hi' : i = 0 ∨ i = 1 ∨ i = 2 ∨ i = 3 ∨ i = 4 ∨ i = 5 ∨ i = 6 ∨ i = 7 ∨ i = 8 ∨ i = 9 ∨ i = 10 ∨ i = 11 ∨ i = 12 ∨ i = 13 ∨ i = 14 ∨ i = 15 ∨ i = 16 ∨ i = 17 ∨ i = 18 ∨ i = 19 ∨ i = 20 ∨ i = 21 ∨ i = 22 := by omega
                  rcases hi' with rfl | rfl | rfl | rfl | rfl | rfl | rfl | rfl | rfl | rfl | rfl | rfl | rfl | rfl | rfl | rfl | rfl | rfl | rfl | rfl | rfl | rfl | rfl
                  all_goals exact trivial
                case hop =>
                  simp only [AllDoIn, List.take_succ_cons, List.take_zero, List.drop_succ_cons, List.drop_zero, Nat.reduceAdd]
                  refine ⟨?o23, ?o24, trivial⟩
                  all_goals rintro y W rfl hd Q hQ
                  all_goals simp [Region.binds] at hd
                  case o23 =>
                    rw [if_pos (show Region.wanted _ _ = true from rfl)]
                    clear hd
                    gi_wp2
                    first | exact ⟨_, rfl, ⟨rfl⟩, rfl⟩ | (refine ⟨.bool false, ?_, ⟨rfl⟩, rfl⟩; simp [updV]) | (refine ⟨?_, ⟨rfl⟩⟩; simp [updV])
                  case o24 =>
                    rw [if_pos (show Region.wanted _ _ = true from rfl)]
                    have e23 : y 23 = .bool false := by simp_all
                    rw [e23]
                    clear hd
                    gi_wp2
                    first | exact ⟨_, rfl, ⟨rfl⟩, rfl⟩ | (refine ⟨.bool false, ?_, ⟨rfl⟩, rfl⟩; simp [updV, e23]) | (refine ⟨?_, ⟨rfl⟩⟩; simp [updV, e23])
                case hend =>
                  rintro y W rfl hv
                  have e23 : y 23 = .bool false := hv 23 (by decide)
                  have e24 : y 24 = .bool false := hv 24 (by decide)
                  clear hv
                  rw [e23, e24]
                  clear e23 e24
                  refine Left.stageL (fun _ => trivial) 25 35 (by decide) (by decide) (by decide +kernel) (by decide +kernel) (fun y => { tmps := #[.pointer (some ⟨g, 0, none⟩), .int .i64 0, .func (.yield lx) #[] #[], undef, undef, undef, .bool false, .pointer (some ⟨g, 0, none⟩), .bool false, .bool false, .pointer (some ⟨g, 0, none⟩), .int .i64 0, .pointer (some ⟨g, 0, none⟩), .pointer (some ⟨g, 3, none⟩), .pointer (some ⟨g, 3, none⟩), .pointer la, .int .i64 0, .func (.yield lx) #[] #[], .bool true, .bool true, .func (.yield lx) #[] #[], .pointer (some ⟨g, 0, none⟩), .pointer (some ⟨g, 0, none⟩), .pointer (some ⟨g, 0, none⟩), .int .u64 k, .pointer (some ⟨g, 0, none⟩), .pointer (some ⟨g, 0, none⟩), .pointer (some ⟨g, 1, none⟩), .int .i64 v, .bool false, .bool false, .bool false, y 25, y 26, y 27, y 28, y 29, y 30, y 31, y 32, y 33, y 34, undef, undef], defers := [] }) (fun W => W3 = W) (fun i u W => match i with
                    | 25 => u = undef
                    | 26 => u = undef
                    | 27 => u = undef
                    | 28 => u = undef
                    | 29 => u = undef
                    | 30 => u = undef
                    | 31 => u = undef
                    | 32 => u = undef
                    | 33 => u = undef
                    | 34 => u = undef
                    | _ => True) (fun A B => SameW A B) ?hC ?hV (fun _ => undef) ?hw ?h0 ?hop ?hend
                  case hC => exact fun A B h e => h.trans e.eq
                  case hV => exact fun i u A B h e => by obtain ⟨rfl⟩ := e; exact h
                  case hw => exact rfl
                  case h0 =>
                    intro i hi
                    have hi' : i = 0 ∨ i = 1 ∨ i = 2 ∨ i = 3 ∨ i = 4 ∨ i = 5 ∨ i = 6 ∨ i = 7 ∨ i = 8 ∨ i = 9 ∨ i = 10 ∨ i = 11 ∨ i = 12 ∨ i = 13 ∨ i = 14 ∨ i = 15 ∨ i = 16 ∨ i = 17 ∨ i = 18 ∨ i = 19 ∨ i = 20 ∨ i = 21 ∨ i = 22 ∨ i = 23 ∨ i = 24 := by omega
                    rcases hi' with rfl | rfl | rfl | rfl | rfl | rfl | rfl | rfl | rfl | rfl | rfl | rfl | rfl | rfl | rfl | rfl | rfl | rfl | rfl | rfl | rfl | rfl | rfl | rfl | rfl
                    all_goals exact trivial
                  case hop =>
                    simp only [AllDoIn, List.take_succ_cons, List.take_zero, List.drop_succ_cons, List.drop_zero, Nat.reduceAdd]
                    refine ⟨?o25, ?o26, ?o27, ?o28, ?o29, ?o30, ?o31, ?o32, ?o33, ?o34, trivial⟩
                    all_goals rintro y W rfl hd Q hQ
                    all_goals simp [Region.binds] at hd
                    case o25 =>
                      rw [if_neg (not_wanted (b := Region.wanted _ _) rfl)]
                      exact hQ _ _ ⟨undef, rfl, ⟨rfl⟩, rfl⟩
                    case o26 =>
                      rw [if_neg (not_wanted (b := Region.wanted _ _) rfl)]
                      exact hQ _ _ ⟨undef, rfl, ⟨rfl⟩, rfl⟩
                    case o27 =>
                      rw [if_neg (not_wanted (b := Region.wanted _ _) rfl)]
                      exact hQ _ _ ⟨undef, rfl, ⟨rfl⟩, rfl⟩
                    case o28 =>
                      rw [if_neg (not_wanted (b := Region.wanted _ _) rfl)]
                      exact hQ _ _ ⟨undef, rfl, ⟨rfl⟩, rfl⟩
                    case o29 =>
                      rw [if_neg (not_wanted (b := Region.wanted _ _) rfl)]
                      exact hQ _ _ ⟨undef, rfl, ⟨rfl⟩, rfl⟩
                    case o30 =>
                      rw [if_neg (not_wanted (b := Region.wanted _ _) rfl)]
                      exact hQ _ _ ⟨undef, rfl, ⟨rfl⟩, rfl⟩
                    case o31 =>
                      rw [if_neg (not_wanted (b := Region.wanted _ _) rfl)]
                      exact hQ _ _ ⟨undef, rfl, ⟨rfl⟩, rfl⟩
                    case o32 =>
                      rw [if_neg (not_wanted (b := Region.wanted _ _) rfl)]
                      exact hQ _ _ ⟨undef, rfl, ⟨rfl⟩, rfl⟩
                    case o33 =>
                      rw [if_neg (not_wanted (b := Region.wanted _ _) rfl)]
                      exact hQ _ _ ⟨undef, rfl, ⟨rfl⟩, rfl⟩
                    case o34 =>
                      rw [if_neg (not_wanted (b := Region.wanted _ _) rfl)]
                      exact hQ _ _ ⟨undef, rfl, ⟨rfl⟩, rfl⟩
                  case hend =>
                    rintro y W rfl hv
                    have e25 : y 25 = undef := hv 25 (by decide)
                    have e26 : y 26 = undef := hv 26 (by decide)
                    have e27 : y 27 = undef := hv 27 (by decide)
                    have e28 : y 28 = undef := hv 28 (by decide)
                    have e29 : y 29 = undef := hv 29 (by decide)
                    have e30 : y 30 = undef := hv 30 (by decide)
                    have e31 : y 31 = undef := hv 31 (by decide)
                    have e32 : y 32 = undef := hv 32 (by decide)
                    have e33 : y 33 = undef := hv 33 (by decide)
                    have e34 : y 34 = undef := hv 34 (by decide)
                    clear hv
                    rw [e25, e26, e27, e28, e29, e30, e31, e32, e33, e34]
                    clear e25 e26 e27 e28 e29 e30 e31 e32 e33 e34
                    refine Left.stageL (fun _ => trivial) 35 38 (by decide) (by decide) (by decide +kernel) (by decide +kernel) (fun y => { tmps := #[.pointer (some ⟨g, 0, none⟩), .int .i64 0, .func (.yield lx) #[] #[], undef, undef, undef, y 37, .pointer (some ⟨g, 0, none⟩), .bool false, .bool false, .pointer (some ⟨g, 0, none⟩), .int .i64 0, .pointer (some ⟨g, 0, none⟩), .pointer (some ⟨g, 3, none⟩), .pointer (some ⟨g, 3, none⟩), .pointer la, .int .i64 0, .func (.yield lx) #[] #[], .bool true, .bool true, .func (.yield lx) #[] #[], .pointer (some ⟨g, 0, none⟩), .pointer (some ⟨g, 0, none⟩), .pointer (some ⟨g, 0, none⟩), .int .u64 k, .pointer (some ⟨g, 0, none⟩), .pointer (some ⟨g, 0, none⟩), .pointer (some ⟨g, 1, none⟩), .int .i64 v, .bool false, .bool false, .bool false, undef, undef, undef, undef, undef, undef, undef, undef, undef, undef, y 35, y 36], defers := [] }) (fun W => W3 = W) (fun i u W => match i with
                      | 35 => u = .bool false
                      | 36 => u = .bool false
                      | 37 => u = .bool false
                      | _ => True) (fun A B => SameW A B) ?hC ?hV (fun i => if i = 37 then .bool false else undef) ?hw ?h0 ?hop ?hend
                    case hC => exact fun A B h e => h.trans e.eq
                    case hV => exact fun i u A B h e => by obtain ⟨rfl⟩ := e; exact h
                    case hw => exact rfl
                    case h0 =>
                      intro i hi
                      have hi' : i = 0 ∨ i = 1 ∨ i = 2 ∨ i = 3 ∨ i = 4 ∨ i = 5 ∨ i = 6 ∨ i = 7 ∨ i = 8 ∨ i = 9 ∨ i = 10 ∨ i = 11 ∨ i = 12 ∨ i = 13 ∨ i = 14 ∨ i = 15 ∨ i = 16 ∨ i = 17 ∨ i = 18 ∨ i = 19 ∨ i = 20 ∨ i = 21 ∨ i = 22 ∨ i = 23 ∨ i = 24 ∨ i = 25 ∨ i = 26 ∨ i = 27 ∨ i = 28 ∨ i = 29 ∨ i = 30 ∨ i = 31 ∨ i = 32 ∨ i = 33 ∨ i = 34 := by omega
                      rcases hi' with rfl | rfl | rfl | rfl | rfl | rfl | rfl | rfl | rfl | rfl | rfl | rfl | rfl | rfl | rfl | rfl | rfl | rfl | rfl | rfl | rfl | rfl | rfl | rfl | rfl | rfl | rfl | rfl | rfl | rfl | rfl | rfl | rfl | rfl | rfl
                      all_goals exact trivial
                    case hop =>
                      simp only [AllDoIn, List.take_succ_cons, List.take_zero, List.drop_succ_cons, List.drop_zero, Nat.reduceAdd]
                      refine ⟨?o35, ?o36, ?o37, trivial⟩
                      all_goals rintro y W rfl hd Q hQ
                      all_goals simp [Region.binds] at hd
                      case o35 =>
                        rw [if_pos (show Region.wanted _ _ = true from rfl)]
                        clear hd
                        gi_wp2
                        first | exact ⟨_, rfl, ⟨rfl⟩, rfl⟩ | (refine ⟨.bool false, ?_, ⟨rfl⟩, rfl⟩; simp [updV]) | (refine ⟨?_, ⟨rfl⟩⟩; simp [updV])
                      case o36 =>
                        rw [if_pos (show Region.wanted _ _ = true from rfl)]
                        have e35 : y 35 = .bool false := by simp_all
                        rw [e35]
                        clear hd
                        gi_wp2
                        first | exact ⟨_, rfl, ⟨rfl⟩, rfl⟩ | (refine ⟨.bool false, ?_, ⟨rfl⟩, rfl⟩; simp [updV, e35]) | (refine ⟨?_, ⟨rfl⟩⟩; simp [updV, e35])
                      case o37 =>
                        rw [if_pos (show Region.wanted _ _ = true from rfl)]
                        have e36 : y 36 = .bool false := by simp_all
                        rw [e36]
                        clear hd
                        gi_wp2
                        first | exact ⟨_, rfl, ⟨rfl⟩, rfl⟩ | (refine ⟨.bool false, ?_, ⟨rfl⟩, rfl⟩; simp [updV, e36]) | (refine ⟨?_, ⟨rfl⟩⟩; simp [updV, e36])
                    case hend =>
                      rintro y W rfl hv
                      have e35 : y 35 = .bool false := hv 35 (by decide)
                      have e36 : y 36 = .bool false := hv 36 (by decide)
                      have e37 : y 37 = .bool false := hv 37 (by decide)
                      clear hv
                      rw [e35, e36, e37]
                      clear e35 e36 e37
                      refine Left.end_ ?_
                      gi_wp2
                      refine bodyPost_ret (results_tmp rfl _ _ _) rfl ?_
                      exact .inr ⟨rfl, c, hD, hX⟩
        · gi_wp2
          refine Left.stageL (fun _ => trivial) 12 13 (by decide) (by decide) (by decide +kernel) (by decide +kernel) (fun y => { tmps := #[.pointer (some ⟨g, 0, none⟩), .int .i64 0, .func (.yield lx) #[] #[], undef, undef, undef, .bool false, .pointer (some ⟨g, 0, none⟩), .bool false, .bool false, .pointer (some ⟨g, 0, none⟩), .int .i64 0, .pointer (some ⟨g, 0, none⟩), .pointer (some ⟨g, 3, none⟩), .pointer (some ⟨g, 3, none⟩), .pointer la, .int .i64 0, .func (.yield lx) #[] #[], .bool false, y 12, undef, undef, undef, undef, undef, undef, undef, undef, undef, undef, undef, undef, undef, undef, undef, undef, undef, undef, undef, undef, undef, undef, undef, undef], defers := [] }) (fun W => W2 = W) (fun i u W => match i with
            | 12 => u = .bool false
            | _ => True) (fun A B => SameW A B) ?hC ?hV (fun _ => undef) ?hw ?h0 ?hop ?hend
          case hC => exact fun A B h e => h.trans e.eq
          case hV => exact fun i u A B h e => by obtain ⟨rfl⟩ := e; exact h
          case hw => exact rfl
          case h0 =>
            intro i hi
            have hi' : i = 0 ∨ i = 1 ∨ i = 2 ∨ i = 3 ∨ i = 4 ∨ i = 5 ∨ i = 6 ∨ i = 7 ∨ i = 8 ∨ i = 9 ∨ i = 10 ∨ i = 11 := by omega
            rcases hi' with rfl | rfl | rfl | rfl | rfl | rfl | rfl | rfl | rfl | rfl | rfl | rfl
            all_goals exact trivial
          case hop =>
            simp only [AllDoIn, List.take_succ_cons, List.take_zero, List.drop_succ_cons, List.drop_zero, Nat.reduceAdd]
            refine ⟨?o12, trivial⟩
            all_goals rintro y W rfl hd Q hQ
            all_goals simp [Region.binds] at hd
            case o12 =>
              rw [if_pos (show Region.wanted _ _ = true from rfl)]
              clear hd
              gi_wp2
              first | exact ⟨_, rfl, ⟨rfl⟩, rfl⟩ | (refine ⟨.bool false, ?_, ⟨rfl⟩, rfl⟩; simp [updV]) | (refine ⟨?_, ⟨rfl⟩⟩; simp [updV])
          case hend =>
            rintro y W rfl hv
            have e12 : y 12 = .bool false := hv 12 (by decide)
            clear hv
            rw [e12]
            clear e12
            refine Left.stageL (fun _ => trivial) 13 23 (by decide) (by decide) (by decide +kernel) (by decide +kernel) (fun y => { tmps := #[.pointer (some ⟨g, 0, none⟩), .int .i64 0, .func (.yield lx) #[] #[], undef, undef, undef, .bool false, .pointer (some ⟨g, 0, none⟩), .bool false, .bool false, .pointer (some ⟨g, 0, none⟩), .int .i64 0, .pointer (some ⟨g, 0, none⟩), .pointer (some ⟨g, 3, none⟩), .pointer (some ⟨g, 3, none⟩), .pointer la, .int .i64 0, .func (.yield lx) #[] #[], .bool false, .bool false, y 13, y 14, y 15, y 16, y 17, y 18, y 19, y 20, y 21, y 22, undef, undef, undef, undef, undef, undef, undef, undef, undef, undef, undef, undef, undef, undef], defers := [] }) (fun W => W2 = W) (fun i u W => match i with
              | 13 => u = undef
              | 14 => u = undef
              | 15 => u = undef
              | 16 => u = undef
              | 17 => u = undef
              | 18 => u = undef
              | 19 => u = undef
              | 20 => u = undef
              | 21 => u = undef
              | 22 => u = undef
              | _ => True) (fun A B => SameW A B) ?hC ?hV (fun _ => undef) ?hw ?h0 ?hop ?hend
            case hC => exact fun A B h e => h.trans e.eq
            case hV => exact fun i u A B h e => by obtain ⟨rfl⟩ := e; exact h
            case hw => exact rfl
            case h0 =>
              intro i hi
              have hi' : i = 0 ∨ i = 1 ∨ i = 2 ∨ i = 3 ∨ i = 4 ∨ i = 5 ∨ i = 6 ∨ i = 7 ∨ i = 8 ∨ i = 9 ∨ i = 10 ∨ i = 11 ∨ i = 12 := by omega
              rcases hi' with rfl | rfl | rfl | rfl | rfl | rfl | rfl | rfl | rfl | rfl | rfl | rfl | rfl
              all_goals exact trivial
            case hop =>
              simp only [AllDoIn, List.take_succ_cons, List.take_zero, List.drop_succ_cons, List.drop_zero, Nat.reduceAdd]
              refine ⟨?o13, ?o14, ?o15, ?o16, ?o17, ?o18, ?o19, ?o20, ?o21, ?o22, trivial⟩
              all_goals rintro y W rfl hd Q hQ
              all_goals simp [Region.binds] at hd
              case o13 =>
                rw [if_neg (not_wanted (b := Region.wanted _ _) rfl)]
                exact hQ _ _ ⟨undef, rfl, ⟨rfl⟩, rfl⟩
              case o14 =>
                rw [if_neg (not_wanted (b := Region.wanted _ _) rfl)]
                exact hQ _ _ ⟨undef, rfl, ⟨rfl⟩, rfl⟩
              case o15 =>
                rw [if_neg (not_wanted (b := Region.wanted _ _) rfl)]
                exact hQ _ _ ⟨undef, rfl, ⟨rfl⟩, rfl⟩
              case o16 =>
                rw [if_neg (not_wanted (b := Region.wanted _ _) rfl)]
                exact hQ _ _ ⟨undef, rfl, ⟨rfl⟩, rfl⟩
              case o17 =>
                rw [if_neg (not_wanted (b := Region.wanted _ _) rfl)]
                exact hQ _ _ ⟨undef, rfl, ⟨rfl⟩, rfl⟩
              case o18 =>
                rw [if_neg (not_wanted (b := Region.wanted _ _) rfl)]
                exact hQ _ _ ⟨undef, rfl, ⟨rfl⟩, rfl⟩
              case o19 =>
                rw [if_neg (not_wanted (b := Region.wanted _ _) rfl)]
                exact hQ _ _ ⟨undef, rfl, ⟨rfl⟩, rfl⟩
              case o20 =>
                rw [if_neg (not_wanted (b := Region.wanted _ _) rfl)]
                exact hQ _ _ ⟨undef, rfl, ⟨rfl⟩, rfl⟩
              case o21 =>
                rw [if_neg (not_wanted (b := Region.wanted _ _) rfl)]
                exact hQ _ _ ⟨undef, rfl, ⟨rfl⟩, rfl⟩
              case o22 =>
                rw [if_neg (not_wanted (b := Region.wanted _ _) rfl)]
                exact hQ _ _ ⟨undef, rfl, ⟨rfl⟩, rfl⟩
            case hend =>
              rintro y W rfl hv
              have e13 : y 13 = undef := hv 13 (by decide)
              have e14 : y 14 = undef := hv 14 (by decide)
              have e15 : y 15 = undef := hv 15 (by decide)
              have e16 : y 16 = undef := hv 16 (by decide)
              have e17 : y 17 = undef := hv 17 (by decide)
              have e18 : y 18 = undef := hv 18 (by decide)
              have e19 : y 19 = undef := hv 19 (by decide)
              have e20 : y 20 = undef := hv 20 (by decide)
              have e21 : y 21 = undef := hv 21 (by decide)
              have e22 : y 22 = undef := hv 22 (by decide)
              clear hv
              rw [e13, e14, e15, e16, e17, e18, e19, e20, e21, e22]
              clear e13 e14 e15 e16 e17 e18 e19 e20 e21 e22
              refine Left.stageL (fun _ => trivial) 23 25 (by decide) (by decide) (by decide +kernel) (by decide +kernel) (fun y => { tmps := #[.pointer (some ⟨g, 0, none⟩), .int .i64 0, .func (.yield lx) #[] #[], undef, undef, undef, .bool false, .pointer (some ⟨g, 0, none⟩), .bool false, .bool false, .pointer (some ⟨g, 0, none⟩), .int .i64 0, .pointer (some ⟨g, 0, none⟩), .pointer (some ⟨g, 3, none⟩), .pointer (some ⟨g, 3, none⟩), .pointer la, .int .i64 0, .func (.yield lx) #[] #[], .bool false, .bool false, undef, undef, undef, undef, undef, undef, undef, undef, undef, undef, y 23, y 24, undef, undef, undef, undef, undef, undef, undef, undef, undef, undef, undef, undef], defers := [] }) (fun W => W2 = W) (fun i u W => match i with
                | 23 => u = .bool false
                | 24 => u = .bool false
                | _ => True) (fun A B => SameW A B) ?hC ?hV (fun _ => undef) ?hw ?h0 ?hop ?hend
              case hC => exact fun A B h e => h.trans e.eq
              case hV => exact fun i u A B h e => by obtain ⟨rfl⟩ := e; exact h
              case hw => exact rfl
              case h0 =>
                intro i hi
                have hi' : i = 0 ∨ i = 1 ∨ i = 2 ∨ i = 3 ∨ i = 4 ∨ i = 5 ∨ i = 6 ∨ i = 7 ∨ i = 8 ∨ i = 9 ∨ i = 10 ∨ i = 11 ∨ i = 12 ∨ i = 13 ∨ i = 14 ∨ i = 15 ∨ i = 16 ∨ i = 17 ∨ i = 18 ∨ i = 19 ∨ i = 20 ∨ i = 21 ∨ i = 22 := by omega
                rcases hi' with rfl | rfl | rfl | rfl | rfl | rfl | rfl | rfl | rfl | rfl | rfl | rfl | rfl | rfl | rfl | rfl | rfl | rfl | rfl | rfl | rfl | rfl | rfl
                all_goals exact trivial
              case hop =>
                simp only [AllDoIn, List.take_succ_cons, List.take_zero, List.drop_succ_cons, List.drop_zero, Nat.reduceAdd]
                refine ⟨?o23, ?o24, trivial⟩
                all_goals rintro y W rfl hd Q hQ
                all_goals simp [Region.binds] at hd
                case o23 =>
                  rw [if_pos (show Region.wanted _ _ = true from rfl)]
                  clear hd
                  gi_wp2
                  first | exact ⟨_, rfl, ⟨rfl⟩, rfl⟩ | (refine ⟨.bool false, ?_, ⟨rfl⟩, rfl⟩; simp [updV]) | (refine ⟨?_, ⟨rfl⟩⟩; simp [updV])
                case o24 =>
                  rw [if_pos (show Region.wanted _ _ = true from rfl)]
                  have e23 : y 23 = .bool false := by simp_all
                  rw [e23]
                  clear hd
                  gi_wp2
                  first | exact ⟨_, rfl, ⟨rfl⟩, rfl⟩ | (refine ⟨.bool false, ?_, ⟨rfl⟩, rfl⟩; simp [updV, e23]) | (refine ⟨?_, ⟨rfl⟩⟩; simp [updV, e23])
              case hend =>
                rintro y W rfl hv
                have e23 : y 23 = .bool false := hv 23 (by decide)
                have e24 : y 24 = .bool false := hv 24 (by decide)
                clear hv
                rw [e23, e24]
                clear e23 e24
                refine Left.stageL (fun _ => trivial) 25 35 (by decide) (by decide) (by decide +kernel) (by decide +kernel) (fun y => { tmps := #[.pointer (some ⟨g, 0, none⟩), .int .i64 0, .func (.yield lx) #[] #[], undef, undef, undef, .bool false, .pointer (some ⟨g, 0, none⟩), .bool false, .bool false, .pointer (some ⟨g, 0, none⟩), .int .i64 0, .pointer (some ⟨g, 0, none⟩), .pointer (some ⟨g, 3, none⟩), .pointer (some ⟨g, 3, none⟩), .pointer la, .int .i64 0, .func (.yield lx) #[] #[], .bool false, .bool false, undef, undef, undef, undef, undef, undef, undef, undef, undef, undef, .bool false, .bool false, y 25, y 26, y 27, y 28, y 29, y 30, y 31, y 32, y 33, y 34, undef, undef], defers := [] }) (fun W => W2 = W) (fun i u W => match i with
                  | 25 => u = undef
                  | 26 => u = undef
                  | 27 => u = undef
                  | 28 => u = undef
                  | 29 => u = undef
                  | 30 => u = undef
                  | 31 => u = undef
                  | 32 => u = undef
                  | 33 => u = undef
                  | 34 => u = undef
                  | _ => True) (fun A B => SameW A B) ?hC ?hV (fun _ => undef) ?hw ?h0 ?hop ?hend
                case hC => exact fun A B h e => h.trans e.eq
                case hV => exact fun i u A B h e => by obtain ⟨rfl⟩ := e; exact h
                case hw => exact rfl
                case h0 =>
                  intro i hi
                  have hi' : i = 0 ∨ i = 1 ∨ i = 2 ∨ i = 3 ∨ i = 4 ∨ i = 5 ∨ i = 6 ∨ i = 7 ∨ i = 8 ∨ i = 9 ∨ i = 10 ∨ i = 11 ∨ i = 12 ∨ i = 13 ∨ i = 14 ∨ i = 15 ∨ i = 16 ∨ i = 17 ∨ i = 18 ∨ i = 19 ∨ i = 20 ∨ i = 21 ∨ i = 22 ∨ i = 23 ∨ i = 24 := by omega
                  rcases hi' with rfl | rfl | rfl | rfl | rfl | rfl | rfl | rfl | rfl | rfl | rfl | rfl | rfl | rfl | rfl | rfl | rfl | rfl | rfl | rfl | rfl | rfl | rfl | rfl | rfl
                  all_goals exact trivial
                case hop =>
                  simp only [AllDoIn, List.take_succ_cons, List.take_zero, List.drop_succ_cons, List.drop_zero, Nat.reduceAdd]
                  refine ⟨?o25, ?o26, ?o27, ?o28, ?o29, ?o30, ?o31, ?o32, ?o33, ?o34, trivial⟩
                  all_goals rintro y W rfl hd Q hQ
                  all_goals simp [Region.binds] at hd
                  case o25 =>
                    rw [if_neg (not_wanted (b := Region.wanted _ _) rfl)]
                    exact hQ _ _ ⟨undef, rfl, ⟨rfl⟩, rfl⟩
                  case o26 =>
                    rw [if_neg (not_wanted (b := Region.wanted _ _) rfl)]
                    exact hQ _ _ ⟨undef, rfl, ⟨rfl⟩, rfl⟩
                  case o27 =>
                    rw [if_neg (not_wanted (b := Region.wanted _ _) rfl)]
                    exact hQ _ _ ⟨undef, rfl, ⟨rfl⟩, rfl⟩
                  case o28 =>
                    rw [if_neg (not_wanted (b := Region.wanted _ _) rfl)]
                    exact hQ _ _ ⟨undef, rfl, ⟨rfl⟩, rfl⟩
                  case o29 =>
                    rw [if_neg (not_wanted (b := Region.wanted _ _) rfl)]
                    exact hQ _ _ ⟨undef, rfl, ⟨rfl⟩, rfl⟩
                  case o30 =>
                    rw [if_neg (not_wanted (b := Region.wanted _ _) rfl)]
                    exact hQ _ _ ⟨undef, rfl, ⟨rfl⟩, rfl⟩
                  case o31 =>
                    rw [if_neg (not_wanted (b := Region.wanted _ _) rfl)]
                    exact hQ _ _ ⟨undef, rfl, ⟨rfl⟩, rfl⟩
                  case o32 =>
                    rw [if_neg (not_wanted (b := Region.wanted _ _) rfl)]
                    exact hQ _ _ ⟨undef, rfl, ⟨rfl⟩, rfl⟩
                  case o33 =>
                    rw [if_neg (not_wanted (b := Region.wanted _ _) rfl)]
                    exact hQ _ _ ⟨undef, rfl, ⟨rfl⟩, rfl⟩
                  case o34 =>
                    rw [if_neg (not_wanted (b := Region.wanted _ _) rfl)]
                    exact hQ _ _ ⟨undef, rfl, ⟨rfl⟩, rfl⟩
                case hend =>
                  rintro y W rfl hv
                  have e25 : y 25 = undef := hv 25 (by decide)
                  have e26 : y 26 = undef := hv 26 (by decide)
                  have e27 : y 27 = undef := hv 27 (by decide)
                  have e28 : y 28 = undef := hv 28 (by decide)
                  have e29 : y 29 = undef := hv 29 (by decide)
                  have e30 : y 30 = undef := hv 30 (by decide)
                  have e31 : y 31 = undef := hv 31 (by decide)
                  have e32 : y 32 = undef := hv 32 (by decide)
                  have e33 : y 33 = undef := hv 33 (by decide)
                  have e34 : y 34 = undef := hv 34 (by decide)
                  clear hv
                  rw [e25, e26, e27, e28, e29, e30, e31, e32, e33, e34]
                  clear e25 e26 e27 e28 e29 e30 e31 e32 e33 e34
                  refine Left.stageL (fun _ => trivial) 35 38 (by decide) (by decide) (by decide +kernel) (by decide +kernel) (fun y => { tmps := #[.pointer (some ⟨g, 0, none⟩), .int .i64 0, .func (.yield lx) #[] #[], undef, undef, undef, y 37, .pointer (some ⟨g, 0, none⟩), .bool false, .bool false, .pointer (some ⟨g, 0, none⟩), .int .i64 0, .pointer (some ⟨g, 0, none⟩), .pointer (some ⟨g, 3, none⟩), .pointer (some ⟨g, 3, none⟩), .pointer la, .int .i64 0, .func (.yield lx) #[] #[], .bool false, .bool false, undef, undef, undef, undef, undef, undef, undef, undef, undef, undef, .bool false, .bool false, undef, undef, undef, undef, undef, undef, undef, undef, undef, undef, y 35, y 36], defers := [] }) (fun W => W2 = W) (fun i u W => match i with
                    | 35 => u = .bool false
                    | 36 => u = .bool false
                    | 37 => u = .bool false
                    | _ => True) (fun A B => SameW A B) ?hC ?hV (fun i => if i = 37 then .bool false else undef) ?hw ?h0 ?hop ?hend
                  case hC => exact fun A B h e => h.trans e.eq
                  case hV => exact fun i u A B h e => by obtain ⟨rfl⟩ := e; exact h
                  case hw => exact rfl
                  case h0 =>
                    intro i hi
                    have hi' : i = 0 ∨ i = 1 ∨ i = 2 ∨ i = 3 ∨ i = 4 ∨ i = 5 ∨ i = 6 ∨ i = 7 ∨ i = 8 ∨ i = 9 ∨ i = 10 ∨ i = 11 ∨ i = 12 ∨ i = 13 ∨ i = 14 ∨ i = 15 ∨ i = 16 ∨ i = 17 ∨ i = 18 ∨ i = 19 ∨ i = 20 ∨ i = 21 ∨ i = 22 ∨ i = 23 ∨ i = 24 ∨ i = 25 ∨ i = 26 ∨ i = 27 ∨ i = 28 ∨ i = 29 ∨ i = 30 ∨ i = 31 ∨ i = 32 ∨ i = 33 ∨ i = 34 := by omega
                    rcases hi' with rfl | rfl | rfl | rfl | rfl | rfl | rfl | rfl | rfl | rfl | rfl | rfl | rfl | rfl | rfl | rfl | rfl | rfl | rfl | rfl | rfl | rfl | rfl | rfl | rfl | rfl | rfl | rfl | rfl | rfl | rfl | rfl | rfl | rfl | rfl
                    all_goals exact trivial
                  case hop =>
                    simp only [AllDoIn, List.take_succ_cons, List.take_zero, List.drop_succ_cons, List.drop_zero, Nat.reduceAdd]
                    refine ⟨?o35, ?o36, ?o37, trivial⟩
                    all_goals rintro y W rfl hd Q hQ
                    all_goals simp [Region.binds] at hd
                    case o35 =>
                      rw [if_pos (show Region.wanted _ _ = true from rfl)]
                      clear hd
                      gi_wp2
                      first | exact ⟨_, rfl, ⟨rfl⟩, rfl⟩ | (refine ⟨.bool false, ?_, ⟨rfl⟩, rfl⟩; simp [updV]) | (refine ⟨?_, ⟨rfl⟩⟩; simp [updV])
                    case o36 =>
                      rw [if_pos (show Region.wanted _ _ = true from rfl)]
                      have e35 : y 35 = .bool false := by simp_all
                      rw [e35]
                      clear hd
                      gi_wp2
                      first | exact ⟨_, rfl, ⟨rfl⟩, rfl⟩ | (refine ⟨.bool false, ?_, ⟨rfl⟩, rfl⟩; simp [updV, e35]) | (refine ⟨?_, ⟨rfl⟩⟩; simp [updV, e35])
                    case o37 =>
                      rw [if_pos (show Region.wanted _ _ = true from rfl)]
                      have e36 : y 36 = .bool false := by simp_all
                      rw [e36]
                      clear hd
                      gi_wp2
                      first | exact ⟨_, rfl, ⟨rfl⟩, rfl⟩ | (refine ⟨.bool false, ?_, ⟨rfl⟩, rfl⟩; simp [updV, e36]) | (refine ⟨?_, ⟨rfl⟩⟩; simp [updV, e36])
                  case hend =>
                    rintro y W rfl hv
                    have e35 : y 35 = .bool false := hv 35 (by decide)
                    have e36 : y 36 = .bool false := hv 36 (by decide)
                    have e37 : y 37 = .bool false := hv 37 (by decide)
                    clear hv
                    rw [e35, e36, e37]
                    clear e35 e36 e37
                    refine Left.end_ ?_
                    gi_wp2
                    refine bodyPost_ret (results_tmp rfl _ _ _) rfl ?_
                    exact .inr ⟨rfl, c, hD, hX⟩

set_option maxRecDepth 100000 in
set_option maxHeartbeats 16000000 in
theorem eachTrueN {σ : Type} {W0 : World} {rest : σ → KV} {J : σ → World → Prop} {Jm : σ → Int × Int → World → Prop} {Jx : Code → World → Prop} {Af : σ → σ → Prop} {lx m B : Nat} {Rd : World → Prop} {Dn : Code → World → Prop} (hC : EachC W0 rest J Jm Af)
    (hRd : ∀ A A', SameRec B A A' → Rd A → Rd A') (hY : ∀ s x A, Rd A → Jm s x A → YieldAt Fence.wide m Tryd.prog lx #[.int .u64 x.1, .int .i64 x.2] A fun e A' => (e = .returned (.bool true) ∧ Rd A' ∧ ∃ s', Af s s' ∧ J s' A') ∨ (e = .returned (.bool false) ∧ ∃ c, Dn c A' ∧ Jx c A')) :
    ∀ (t : TrN) (p : Value) (R : KV) (s : σ) (W : World), AtN W0 t p → J s W → Rd W → rest s = walkL true t ++ R → Calls Tryd.prog 42 #[p, .int .i64 1, .func (.yield lx) #[] #[]] W fun e W' => (e = .returned (.bool true) ∧ Rd W' ∧ ∃ s', rest s' = R ∧ J s' W') ∨ (e = .returned (.bool false) ∧ ∃ c, Dn c W' ∧ Jx c W')
  | .nil, p, R, s, W, h, hJ, hR, hr => by
    obtain rfl := h
    have hr : rest s = R := hr
    have HJ := Lib.hid (hC.drew s W hJ)
    have HRD := Lib.hid (hRd W W.drew ⟨rfl, rfl⟩ hR)
    clear hC hY hRd hJ hR
    refine (callsIn_wide (n := 2)).1 ?_
    refine callsIn_of_wp Tryd.func42 rfl trivial ?_ rfl
    simp only [Tryd.ntmps42, List.size_toArray, List.length_cons, List.length_nil, Nat.reduceAdd, Nat.reduceSub, Array.replicate_succ, Array.replicate_zero, List.push_toArray, List.append_toArray, List.nil_append, List.cons_append]
    gi_wp2_with fail
    refine region_left (by kernel_rfl) ?_
    obtain ⟨W1, hW1⟩ : ∃ W1, W.drew = W1 := ⟨_, rfl⟩
    rw [hW1] at HJ HRD ⊢
    clear hW1
    refine Left.stageL (fun _ => trivial) 0 3 (by decide) (by decide) (by decide +kernel) (by decide +kernel) (fun y => { tmps := #[.pointer none, .int .i64 1, .func (.yield lx) #[] #[], undef, undef, undef, .bool false, y 0, y 1, y 2, undef, undef, undef, undef, undef, undef, undef, undef, undef, undef, undef, undef, undef, undef, undef, undef, undef, undef, undef, undef, undef, undef, undef, undef, undef, undef, undef, undef, undef, undef, undef, undef, undef, undef], defers := [] }) (fun W => W1 = W) (fun i u W => match i with
      | 0 => u = .pointer none
      | 1 => u = .bool true
      | 2 => u = .bool true
      | _ => True) (fun A B => SameW A B) ?hC ?hV (fun _ => undef) ?hw ?h0 ?hop ?hend
    case hC => exact fun A B h e => h.trans e.eq
    case hV => exact fun i u A B h e => by obtain ⟨rfl⟩ := e; exact h
    case hw => exact rfl
    case h0 => exact fun i hi => by omega
    case hop =>
      simp only [AllDoIn, List.take_succ_cons, List.take_zero, List.drop_succ_cons, List.drop_zero, Nat.reduceAdd]
      refine ⟨?o0, ?o1, ?o2, trivial⟩
      all_goals rintro y W rfl hd Q hQ
      all_goals simp [Region.binds] at hd
      case o0 =>
        rw [if_pos (show Region.wanted _ _ = true from rfl)]
        clear hd
        gi_wp2
        first | exact ⟨_, rfl, ⟨rfl⟩, rfl⟩ | (refine ⟨.pointer none, ?_, ⟨rfl⟩, rfl⟩; simp [updV]) | (refine ⟨?_, ⟨rfl⟩⟩; simp [updV])
      case o1 =>
        rw [if_pos (show Region.wanted _ _ = true from rfl)]
        have e0 : y 0 = .pointer none := by simp_all
        rw [e0]
        clear hd
        gi_wp2
        first | exact ⟨_, rfl, ⟨rfl⟩, rfl⟩ | (refine ⟨.bool true, ?_, ⟨rfl⟩, rfl⟩; simp [updV, e0]) | (refine ⟨?_, ⟨rfl⟩⟩; simp [updV, e0])
      case o2 =>
        rw [if_pos (show Region.wanted _ _ = true from rfl)]
        have e1 : y 1 = .bool true := by simp_all
        rw [e1]
        clear hd
        gi_wp2
        first | exact ⟨_, rfl, ⟨rfl⟩, rfl⟩ | (refine ⟨.bool true, ?_, ⟨rfl⟩, rfl⟩; simp [updV, e1]) | (refine ⟨?_, ⟨rfl⟩⟩; simp [updV, e1])
    case hend =>
      rintro y W rfl hv
      have e0 : y 0 = .pointer none := hv 0 (by decide)
      have e1 : y 1 = .bool true := hv 1 (by decide)
      have e2 : y 2 = .bool true := hv 2 (by decide)
      clear hv
      rw [e0, e1, e2]
      clear e0 e1 e2
      refine Left.stageL (fun _ => trivial) 3 13 (by decide) (by decide) (by decide +kernel) (by decide +kernel) (fun y => { tmps := #[.pointer none, .int .i64 1, .func (.yield lx) #[] #[], undef, undef, undef, .bool false, .pointer none, .bool true, .bool true, y 3, y 4, y 5, y 6, y 7, y 8, y 9, y 10, y 11, y 12, undef, undef, undef, undef, undef, undef, undef, undef, undef, undef, undef, undef, undef, undef, undef, undef, undef, undef, undef, undef, undef, undef, undef, undef], defers := [] }) (fun W => W1 = W) (fun i u W => match i with
        | 3 => u = undef
        | 4 => u = undef
        | 5 => u = undef
        | 6 => u = undef
        | 7 => u = undef
        | 8 => u = undef
        | 9 => u = undef
        | 10 => u = undef
        | 11 => u = undef
        | 12 => u = undef
        | _ => True) (fun A B => SameW A B) ?hC ?hV (fun _ => undef) ?hw ?h0 ?hop ?hend
      case hC => exact fun A B h e => h.trans e.eq
      case hV => exact fun i u A B h e => by obtain ⟨rfl⟩ := e; exact h
      case hw => exact rfl
      case h0 =>
        intro i hi
        have hi' : i = 0 ∨ i = 1 ∨ i = 2 := by omega
        rcases hi' with rfl | rfl | rfl
        all_goals exact trivial
      case hop =>
        simp only [AllDoIn, List.take_succ_cons, List.take_zero, List.drop_succ_cons, List.drop_zero, Nat.reduceAdd]
        refine ⟨?o3, ?o4, ?o5, ?o6, ?o7, ?o8, ?o9, ?o10, ?o11, ?o12, trivial⟩
        all_goals rintro y W rfl hd Q hQ
        all_goals simp [Region.binds] at hd
        case o3 =>
          rw [if_neg (not_wanted (b := Region.wanted _ _) rfl)]
          exact hQ _ _ ⟨undef, rfl, ⟨rfl⟩, rfl⟩
        case o4 =>
          rw [if_neg (not_wanted (b := Region.wanted _ _) rfl)]
          exact hQ _ _ ⟨undef, rfl, ⟨rfl⟩, rfl⟩
        case o5 =>
          rw [if_neg (not_wanted (b := Region.wanted _ _) rfl)]
          exact hQ _ _ ⟨undef, rfl, ⟨rfl⟩, rfl⟩
        case o6 =>
          rw [if_neg (not_wanted (b := Region.wanted _ _) rfl)]
          exact hQ _ _ ⟨undef, rfl, ⟨rfl⟩, rfl⟩
        case o7 =>
          rw [if_neg (not_wanted (b := Region.wanted _ _) rfl)]
          exact hQ _ _ ⟨undef, rfl, ⟨rfl⟩, rfl⟩
        case o8 =>
          rw [if_neg (not_wanted (b := Region.wanted _ _) rfl)]
          exact hQ _ _ ⟨undef, rfl, ⟨rfl⟩, rfl⟩
        case o9 =>
          rw [if_neg (not_wanted (b := Region.wanted _ _) rfl)]
          exact hQ _ _ ⟨undef, rfl, ⟨rfl⟩, rfl⟩
        case o10 =>
          rw [if_neg (not_wanted (b := Region.wanted _ _) rfl)]
          exact hQ _ _ ⟨undef, rfl, ⟨rfl⟩, rfl⟩
        case o11 =>
          rw [if_neg (not_wanted (b := Region.wanted _ _) rfl)]
          exact hQ _ _ ⟨undef, rfl, ⟨rfl⟩, rfl⟩
        case o12 =>
          rw [if_neg (not_wanted (b := Region.wanted _ _) rfl)]
          exact hQ _ _ ⟨undef, rfl, ⟨rfl⟩, rfl⟩
      case hend =>
        rintro y W rfl hv
        have e3 : y 3 = undef := hv 3 (by decide)
        have e4 : y 4 = undef := hv 4 (by decide)
        have e5 : y 5 = undef := hv 5 (by decide)
        have e6 : y 6 = undef := hv 6 (by decide)
        have e7 : y 7 = undef := hv 7 (by decide)
        have e8 : y 8 = undef := hv 8 (by decide)
        have e9 : y 9 = undef := hv 9 (by decide)
        have e10 : y 10 = undef := hv 10 (by decide)
        have e11 : y 11 = undef := hv 11 (by decide)
        have e12 : y 12 = undef := hv 12 (by decide)
        clear hv
        rw [e3, e4, e5, e6, e7, e8, e9, e10, e11, e12]
        clear e3 e4 e5 e6 e7 e8 e9 e10 e11 e12
        refine Left.stageL (fun _ => trivial) 13 25 (by decide) (by decide) (by decide +kernel) (by decide +kernel) (fun y => { tmps := #[.pointer none, .int .i64 1, .func (.yield lx) #[] #[], undef, undef, undef, .bool false, .pointer none, .bool true, .bool true, undef, undef, undef, undef, undef, undef, undef, undef, undef, undef, y 13, y 14, y 15, y 16, y 17, y 18, y 19, y 20, y 21, y 22, y 23, y 24, undef, undef, undef, undef, undef, undef, undef, undef, undef, undef, undef, undef], defers := [] }) (fun W => W1 = W) (fun i u W => match i with
          | 13 => u = undef
          | 14 => u = undef
          | 15 => u = undef
          | 16 => u = undef
          | 17 => u = undef
          | 18 => u = undef
          | 19 => u = undef
          | 20 => u = undef
          | 21 => u = undef
          | 22 => u = undef
          | 23 => u = undef
          | 24 => u = undef
          | _ => True) (fun A B => SameW A B) ?hC ?hV (fun _ => undef) ?hw ?h0 ?hop ?hend
        case hC => exact fun A B h e => h.trans e.eq
        case hV => exact fun i u A B h e => by obtain ⟨rfl⟩ := e; exact h
        case hw => exact rfl
        case h0 =>
          intro i hi
          have hi' : i = 0 ∨ i = 1 ∨ i = 2 ∨ i = 3 ∨ i = 4 ∨ i = 5 ∨ i = 6 ∨ i = 7 ∨ i = 8 ∨ i = 9 ∨ i = 10 ∨ i = 11 ∨ i = 12 := by omega
          rcases hi' with rfl | rfl | rfl | rfl | rfl | rfl | rfl | rfl | rfl | rfl | rfl | rfl | rfl
          all_goals exact trivial
        case hop =>
          simp only [AllDoIn, List.take_succ_cons, List.take_zero, List.drop_succ_cons, List.drop_zero, Nat.reduceAdd]
          refine ⟨?o13, ?o14, ?o15, ?o16, ?o17, ?o18, ?o19, ?o20, ?o21, ?o22, ?o23, ?o24, trivial⟩
          all_goals rintro y W rfl hd Q hQ
          all_goals simp [Region.binds] at hd
          case o13 =>
            rw [if_neg (not_wanted (b := Region.wanted _ _) rfl)]
            exact hQ _ _ ⟨undef, rfl, ⟨rfl⟩, rfl⟩
          case o14 =>
            rw [if_neg (not_wanted (b := Region.wanted _ _) rfl)]
            exact hQ _ _ ⟨undef, rfl, ⟨rfl⟩, rfl⟩
          case o15 =>
            rw [if_neg (not_wanted (b := Region.wanted _ _) rfl)]
            exact hQ _ _ ⟨undef, rfl, ⟨rfl⟩, rfl⟩
          case o16 =>
            rw [if_neg (not_wanted (b := Region.wanted _ _) rfl)]
            exact hQ _ _ ⟨undef, rfl, ⟨rfl⟩, rfl⟩
          case o17 =>
            rw [if_neg (not_wanted (b := Region.wanted _ _) rfl)]
            exact hQ _ _ ⟨undef, rfl, ⟨rfl⟩, rfl⟩
          case o18 =>
            rw [if_neg (not_wanted (b := Region.wanted _ _) rfl)]
            exact hQ _ _ ⟨undef, rfl, ⟨rfl⟩, rfl⟩
          case o19 =>
            rw [if_neg (not_wanted (b := Region.wanted _ _) rfl)]
            exact hQ _ _ ⟨undef, rfl, ⟨rfl⟩, rfl⟩
          case o20 =>
            rw [if_neg (not_wanted (b := Region.wanted _ _) rfl)]
            exact hQ _ _ ⟨undef, rfl, ⟨rfl⟩, rfl⟩
          case o21 =>
            rw [if_neg (not_wanted (b := Region.wanted _ _) rfl)]
            exact hQ _ _ ⟨undef, rfl, ⟨rfl⟩, rfl⟩
          case o22 =>
            rw [if_neg (not_wanted (b := Region.wanted _ _) rfl)]
            exact hQ _ _ ⟨undef, rfl, ⟨rfl⟩, rfl⟩
          case o23 =>
            rw [if_neg (not_wanted (b := Region.wanted _ _) rfl)]
            exact hQ _ _ ⟨undef, rfl, ⟨rfl⟩, rfl⟩
          case o24 =>
            rw [if_neg (not_wanted (b := Region.wanted _ _) rfl)]
            exact hQ _ _ ⟨undef, rfl, ⟨rfl⟩, rfl⟩
        case hend =>
          rintro y W rfl hv
          have e13 : y 13 = undef := hv 13 (by decide)
          have e14 : y 14 = undef := hv 14 (by decide)
          have e15 : y 15 = undef := hv 15 (by decide)
          have e16 : y 16 = undef := hv 16 (by decide)
          have e17 : y 17 = undef := hv 17 (by decide)
          have e18 : y 18 = undef := hv 18 (by decide)
          have e19 : y 19 = undef := hv 19 (by decide)
          have e20 : y 20 = undef := hv 20 (by decide)
          have e21 : y 21 = undef := hv 21 (by decide)
          have e22 : y 22 = undef := hv 22 (by decide)
          have e23 : y 23 = undef := hv 23 (by decide)
          have e24 : y 24 = undef := hv 24 (by decide)
          clear hv
          rw [e13, e14, e15, e16, e17, e18, e19, e20, e21, e22, e23, e24]
          clear e13 e14 e15 e16 e17 e18 e19 e20 e21 e22 e23 e24
          refine Left.stageL (fun _ => trivial) 25 36 (by decide) (by decide) (by decide +kernel) (by decide +kernel) (fun y => { tmps := #[.pointer none, .int .i64 1, .func (.yield lx) #[] #[], undef, undef, undef, .bool false, .pointer none, .bool true, .bool true, undef, undef, undef, undef, undef, undef, undef, undef, undef, undef, undef, undef, undef, undef, undef, undef, undef, undef, undef, undef, undef, undef, y 25, y 26, y 27, y 28, y 29, y 30, y 31, y 32, y 33, y 34, y 35, undef], defers := [] }) (fun W => W1 = W) (fun i u W => match i with
            | 25 => u = undef
            | 26 => u = undef
            | 27 => u = undef
            | 28 => u = undef
            | 29 => u = undef
            | 30 => u = undef
            | 31 => u = undef
            | 32 => u = undef
            | 33 => u = undef
            | 34 => u = undef
            | 35 => u = undef
            | _ => True) (fun A B => SameW A B) ?hC ?hV (fun _ => undef) ?hw ?h0 ?hop ?hend
          case hC => exact fun A B h e => h.trans e.eq
          case hV => exact fun i u A B h e => by obtain ⟨rfl⟩ := e; exact h
          case hw => exact rfl
          case h0 =>
            intro i hi
            have hi' : i = 0 ∨ i = 1 ∨ i = 2 ∨ i = 3 ∨ i = 4 ∨ i = 5 ∨ i = 6 ∨ i = 7 ∨ i = 8 ∨ i = 9 ∨ i = 10 ∨ i = 11 ∨ i = 12 ∨ i = 13 ∨ i = 14 ∨ i = 15 ∨ i = 16 ∨ i = 17 ∨ i = 18 ∨ i = 19 ∨ i = 20 ∨ i = 21 ∨ i = 22 ∨ i = 23 ∨ i = 24 := by omega
            rcases hi' with rfl | rfl | rfl | rfl | rfl | rfl | rfl | rfl | rfl | rfl | rfl | rfl | rfl | rfl | rfl | rfl | rfl | rfl | rfl | rfl | rfl | rfl | rfl | rfl | rfl
            all_goals exact trivial
          case hop =>
            simp only [AllDoIn, List.take_succ_cons, List.take_zero, List.drop_succ_cons, List.drop_zero, Nat.reduceAdd]
            refine ⟨?o25, ?o26, ?o27, ?o28, ?o29, ?o30, ?o31, ?o32, ?o33, ?o34, ?o35, trivial⟩
            all_goals rintro y W rfl hd Q hQ
            all_goals simp [Region.binds] at hd
            case o25 =>
              rw [if_neg (not_wanted (b := Region.wanted _ _) rfl)]
              exact hQ _ _ ⟨undef, rfl, ⟨rfl⟩, rfl⟩
            case o26 =>
              rw [if_neg (not_wanted (b := Region.wanted _ _) rfl)]
              exact hQ _ _ ⟨undef, rfl, ⟨rfl⟩, rfl⟩
            case o27 =>
              rw [if_neg (not_wanted (b := Region.wanted _ _) rfl)]
              exact hQ _ _ ⟨undef, rfl, ⟨rfl⟩, rfl⟩
            case o28 =>
              rw [if_neg (not_wanted (b := Region.wanted _ _) rfl)]
              exact hQ _ _ ⟨undef, rfl, ⟨rfl⟩, rfl⟩
            case o29 =>
              rw [if_neg (not_wanted (b := Region.wanted _ _) rfl)]
              exact hQ _ _ ⟨undef, rfl, ⟨rfl⟩, rfl⟩
            case o30 =>
              rw [if_neg (not_wanted (b := Region.wanted _ _) rfl)]
              exact hQ _ _ ⟨undef, rfl, ⟨rfl⟩, rfl⟩
            case o31 =>
              rw [if_neg (not_wanted (b := Region.wanted _ _) rfl)]
              exact hQ _ _ ⟨undef, rfl, ⟨rfl⟩, rfl⟩
            case o32 =>
              rw [if_neg (not_wanted (b := Region.wanted _ _) rfl)]
              exact hQ _ _ ⟨undef, rfl, ⟨rfl⟩, rfl⟩
            case o33 =>
              rw [if_neg (not_wanted (b := Region.wanted _ _) rfl)]
              exact hQ _ _ ⟨undef, rfl, ⟨rfl⟩, rfl⟩
            case o34 =>
              rw [if_neg (not_wanted (b := Region.wanted _ _) rfl)]
              exact hQ _ _ ⟨undef, rfl, ⟨rfl⟩, rfl⟩
            case o35 =>
              rw [if_neg (not_wanted (b := Region.wanted _ _) rfl)]
              exact hQ _ _ ⟨undef, rfl, ⟨rfl⟩, rfl⟩
          case hend =>
            rintro y W rfl hv
            have e25 : y 25 = undef := hv 25 (by decide)
            have e26 : y 26 = undef := hv 26 (by decide)
            have e27 : y 27 = undef := hv 27 (by decide)
            have e28 : y 28 = undef := hv 28 (by decide)
            have e29 : y 29 = undef := hv 29 (by decide)
            have e30 : y 30 = undef := hv 30 (by decide)
            have e31 : y 31 = undef := hv 31 (by decide)
            have e32 : y 32 = undef := hv 32 (by decide)
            have e33 : y 33 = undef := hv 33 (by decide)
            have e34 : y 34 = undef := hv 34 (by decide)
            have e35 : y 35 = undef := hv 35 (by decide)
            clear hv
            rw [e25, e26, e27, e28, e29, e30, e31, e32, e33, e34, e35]
            clear e25 e26 e27 e28 e29 e30 e31 e32 e33 e34 e35
            refine Left.stageL (fun _ => trivial) 36 38 (by decide) (by decide) (by decide +kernel) (by decide +kernel) (fun y => { tmps := #[.pointer none, .int .i64 1, .func (.yield lx) #[] #[], undef, undef, undef, y 37, .pointer none, .bool true, .bool true, undef, undef, undef, undef, undef, undef, undef, undef, undef, undef, undef, undef, undef, undef, undef, undef, undef, undef, undef, undef, undef, undef, undef, undef, undef, undef, undef, undef, undef, undef, undef, undef, undef, y 36], defers := [] }) (fun W => W1 = W) (fun i u W => match i with
              | 36 => u = .bool true
              | 37 => u = .bool true
              | _ => True) (fun A B => SameW A B) ?hC ?hV (fun i => if i = 37 then .bool false else undef) ?hw ?h0 ?hop ?hend
            case hC => exact fun A B h e => h.trans e.eq
            case hV => exact fun i u A B h e => by obtain ⟨rfl⟩ := e; exact h
            case hw => exact rfl
            case h0 =>
              intro i hi
              have hi' : i = 0 ∨ i = 1 ∨ i = 2 ∨ i = 3 ∨ i = 4 ∨ i = 5 ∨ i = 6 ∨ i = 7 ∨ i = 8 ∨ i = 9 ∨ i = 10 ∨ i = 11 ∨ i = 12 ∨ i = 13 ∨ i = 14 ∨ i = 15 ∨ i = 16 ∨ i = 17 ∨ i = 18 ∨ i = 19 ∨ i = 20 ∨ i = 21 ∨ i = 22 ∨ i = 23 ∨ i = 24 ∨ i = 25 ∨ i = 26 ∨ i = 27 ∨ i = 28 ∨ i = 29 ∨ i = 30 ∨ i = 31 ∨ i = 32 ∨ i = 33 ∨ i = 34 ∨ i = 35 := by omega
              rcases hi' with rfl | rfl | rfl | rfl | rfl | rfl | rfl | rfl | rfl | rfl | rfl | rfl | rfl | rfl | rfl | rfl | rfl | rfl | rfl | rfl | rfl | rfl | rfl | rfl | rfl | rfl | rfl | rfl | rfl | rfl | rfl | rfl | rfl | rfl | rfl | rfl
              all_goals exact trivial
            case hop =>
              simp only [AllDoIn, List.take_succ_cons, List.take_zero, List.drop_succ_cons, List.drop_zero, Nat.reduceAdd]
              refine ⟨?o36, ?o37, trivial⟩
              all_goals rintro y W rfl hd Q hQ
              all_goals simp [Region.binds] at hd
              case o36 =>
                rw [if_pos (show Region.wanted _ _ = true from rfl)]
                clear hd
                gi_wp2
                first | exact ⟨_, rfl, ⟨rfl⟩, rfl⟩ | (refine ⟨.bool true, ?_, ⟨rfl⟩, rfl⟩; simp [updV]) | (refine ⟨?_, ⟨rfl⟩⟩; simp [updV])
              case o37 =>
                rw [if_pos (show Region.wanted _ _ = true from rfl)]
                have e36 : y 36 = .bool true := by simp_all
                rw [e36]
                clear hd
                gi_wp2
                first | exact ⟨_, rfl, ⟨rfl⟩, rfl⟩ | (refine ⟨.bool true, ?_, ⟨rfl⟩, rfl⟩; simp [updV, e36]) | (refine ⟨?_, ⟨rfl⟩⟩; simp [updV, e36])
            case hend =>
              rintro y W rfl hv
              have e36 : y 36 = .bool true := hv 36 (by decide)
              have e37 : y 37 = .bool true := hv 37 (by decide)
              clear hv
              rw [e36, e37]
              clear e36 e37
              refine Left.end_ ?_
              gi_wp2
              refine bodyPost_ret (results_tmp rfl _ _ _) rfl ?_
              exact .inl ⟨rfl, HRD.out, s, hr, HJ.out⟩
  | .node k v l r, p, R, s, W, h, hJ, hR, hr => by
    obtain ⟨g, la, ra, rfl, hb, hl, hrr, _, _, _, _, _⟩ := h.cells
    have IH1 := eachTrueN hC hRd hY r _ ((k, v) :: (walkL true l ++ R)) s W.drew hrr (hC.drew s W hJ) (hRd W W.drew ⟨rfl, rfl⟩ hR) (by rw [hr]; simp [walkL])
    have IH2 := fun R s W => eachTrueN hC hRd hY l _ R s W hl
    have hce : ∀ A, StayN W0 A → A.cell? ⟨g, 0, none⟩ = some (.int .u64 k) ∧ A.cell? ⟨g, 1, none⟩ = some (.int .i64 v) ∧ A.cell? ⟨g, 3, none⟩ = some (.pointer la) ∧ A.cell? ⟨g, 4, none⟩ = some (.pointer ra) := fun A hA => ⟨cell_of_row A g 0 _ _ _ (hA g _ hb), cell_of_row A g 1 _ _ _ (hA g _ hb), cell_of_row A g 3 _ _ _ (hA g _ hb), cell_of_row A g 4 _ _ _ (hA g _ hb)⟩
    obtain ⟨k0, k1, k3, k4⟩ := hce W.drew (hC.stay _ _ (hC.drew s W hJ))
    have HCE := Lib.hid hce
    have HC := Lib.hid hC
    have HY := Lib.hid hY
    have HI1 := Lib.hid IH1
    clear hC hY hRd hJ hR h hb hl hrr hce IH1 hr
    refine (callsIn_wide (n := 2)).1 ?_
    refine callsIn_of_wp Tryd.func42 rfl trivial ?_ rfl
    simp only [Tryd.ntmps42, List.size_toArray, List.length_cons, List.length_nil, Nat.reduceAdd, Nat.reduceSub, Array.replicate_succ, Array.replicate_zero, List.push_toArray, List.append_toArray, List.nil_append, List.cons_append]
    gi_wp2_with fail
    refine region_left (by kernel_rfl) ?_
    obtain ⟨W1, hW1⟩ : ∃ W1, W.drew = W1 := ⟨_, rfl⟩
    rw [hW1] at HI1 k0 k1 k3 k4 ⊢
    clear hW1
    refine Left.stageL (fun _ => trivial) 0 3 (by decide) (by decide) (by decide +kernel) (by decide +kernel) (fun y => { tmps := #[.pointer (some ⟨g, 0, none⟩), .int .i64 1, .func (.yield lx) #[] #[], undef, undef, undef, .bool false, y 0, y 1, y 2, undef, undef, undef, undef, undef, undef, undef, undef, undef, undef, undef, undef, undef, undef, undef, undef, undef, undef, undef, undef, undef, undef, undef, undef, undef, undef, undef, undef, undef, undef, undef, undef, undef, undef], defers := [] }) (fun W => W1 = W) (fun i u W => match i with
      | 0 => u = .pointer (some ⟨g, 0, none⟩)
      | 1 => u = .bool false
      | 2 => u = .bool false
      | _ => True) (fun A B => SameW A B) ?hC ?hV (fun _ => undef) ?hw ?h0 ?hop ?hend
    case hC => exact fun A B h e => h.trans e.eq
    case hV => exact fun i u A B h e => by obtain ⟨rfl⟩ := e; exact h
    case hw => exact rfl
    case h0 => exact fun i hi => by omega
    case hop =>
      simp only [AllDoIn, List.take_succ_cons, List.take_zero, List.drop_succ_cons, List.drop_zero, Nat.reduceAdd]
      refine ⟨?o0, ?o1, ?o2, trivial⟩
      all_goals rintro y W rfl hd Q hQ
      all_goals simp [Region.binds] at hd
      case o0 =>
        rw [if_pos (show Region.wanted _ _ = true from rfl)]
        clear hd
        gi_wp2
        first | exact ⟨_, rfl, ⟨rfl⟩, rfl⟩ | (refine ⟨.pointer (some ⟨g, 0, none⟩), ?_, ⟨rfl⟩, rfl⟩; simp [updV]) | (refine ⟨?_, ⟨rfl⟩⟩; simp [updV])
      case o1 =>
        rw [if_pos (show Region.wanted _ _ = true from rfl)]
        have e0 : y 0 = .pointer (some ⟨g, 0, none⟩) := by simp_all
        rw [e0]
        clear hd
        gi_wp2
        first | exact ⟨_, rfl, ⟨rfl⟩, rfl⟩ | (refine ⟨.bool false, ?_, ⟨rfl⟩, rfl⟩; simp [updV, e0]) | (refine ⟨?_, ⟨rfl⟩⟩; simp [updV, e0])
      case o2 =>
        rw [if_pos (show Region.wanted _ _ = true from rfl)]
        have e1 : y 1 = .bool false := by simp_all
        rw [e1]
        clear hd
        gi_wp2
        first | exact ⟨_, rfl, ⟨rfl⟩, rfl⟩ | (refine ⟨.bool false, ?_, ⟨rfl⟩, rfl⟩; simp [updV, e1]) | (refine ⟨?_, ⟨rfl⟩⟩; simp [updV, e1])
    case hend =>
      rintro y W rfl hv
      have e0 : y 0 = .pointer (some ⟨g, 0, none⟩) := hv 0 (by decide)
      have e1 : y 1 = .bool false := hv 1 (by decide)
      have e2 : y 2 = .bool false := hv 2 (by decide)
      clear hv
      rw [e0, e1, e2]
      clear e0 e1 e2
      refine Left.stageL (fun _ => trivial) 3 11 (by decide) (by decide) (by decide +kernel) (by decide +kernel) (fun y => { tmps := #[.pointer (some ⟨g, 0, none⟩), .int .i64 1, .func (.yield lx) #[] #[], undef, undef, undef, .bool false, .pointer (some ⟨g, 0, none⟩), .bool false, .bool false, y 3, y 4, y 5, y 6, y 7, y 8, y 9, y 10, undef, undef, undef, undef, undef, undef, undef, undef, undef, undef, undef, undef, undef, undef, undef, undef, undef, undef, undef, undef, undef, undef, undef, undef, undef, undef], defers := [] }) (fun W => W1 = W) (fun i u W => match i with
        | 3 => u = .pointer (some ⟨g, 0, none⟩)
        | 4 => u = .int .i64 1
        | 5 => u = .pointer (some ⟨g, 0, none⟩)
        | 6 => u = .pointer (some ⟨g, 3, none⟩)
        | 7 => u = .pointer (some ⟨g, 4, none⟩)
        | 8 => u = .pointer ra
        | 9 => u = .int .i64 1
        | 10 => u = .func (.yield lx) #[] #[]
        | _ => True) (fun A B => SameW A B) ?hC ?hV (fun _ => undef) ?hw ?h0 ?hop ?hend
      case hC => exact fun A B h e => h.trans e.eq
      case hV => exact fun i u A B h e => by obtain ⟨rfl⟩ := e; exact h
      case hw => exact rfl
      case h0 =>
        intro i hi
        have hi' : i = 0 ∨ i = 1 ∨ i = 2 := by omega
        rcases hi' with rfl | rfl | rfl
        all_goals exact trivial
      case hop =>
        simp only [AllDoIn, List.take_succ_cons, List.take_zero, List.drop_succ_cons, List.drop_zero, Nat.reduceAdd]
        refine ⟨?o3, ?o4, ?o5, ?o6, ?o7, ?o8, ?o9, ?o10, trivial⟩
        all_goals rintro y W rfl hd Q hQ
        all_goals simp [Region.binds] at hd
        case o3 =>
          rw [if_pos (show Region.wanted _ _ = true from rfl)]
          clear hd
          gi_wp2
          first | exact ⟨_, rfl, ⟨rfl⟩, rfl⟩ | (refine ⟨.pointer (some ⟨g, 0, none⟩), ?_, ⟨rfl⟩, rfl⟩; simp [updV]) | (refine ⟨?_, ⟨rfl⟩⟩; simp [updV])
        case o4 =>
          rw [if_pos (show Region.wanted _ _ = true from rfl)]
          clear hd
          gi_wp2
          first | exact ⟨_, rfl, ⟨rfl⟩, rfl⟩ | (refine ⟨.int .i64 1, ?_, ⟨rfl⟩, rfl⟩; simp [updV]) | (refine ⟨?_, ⟨rfl⟩⟩; simp [updV])
        case o5 =>
          rw [if_pos (show Region.wanted _ _ = true from rfl)]
          have e3 : y 3 = .pointer (some ⟨g, 0, none⟩) := by simp_all
          rw [e3]
          clear hd
          gi_wp2
          first | exact ⟨_, rfl, ⟨rfl⟩, rfl⟩ | (refine ⟨.pointer (some ⟨g, 0, none⟩), ?_, ⟨rfl⟩, rfl⟩; simp [updV, e3]) | (refine ⟨?_, ⟨rfl⟩⟩; simp [updV, e3])
        case o6 =>
          rw [if_pos (show Region.wanted _ _ = true from rfl)]
          have e5 : y 5 = .pointer (some ⟨g, 0, none⟩) := by simp_all
          rw [e5]
          clear hd
          gi_wp2
          first | exact ⟨_, rfl, ⟨rfl⟩, rfl⟩ | (refine ⟨.pointer (some ⟨g, 3, none⟩), ?_, ⟨rfl⟩, rfl⟩; simp [updV, e5]) | (refine ⟨?_, ⟨rfl⟩⟩; simp [updV, e5])
        case o7 =>
          rw [if_pos (show Region.wanted _ _ = true from rfl)]
          have e6 : y 6 = .pointer (some ⟨g, 3, none⟩) := by simp_all
          have e4 : y 4 = .int .i64 1 := by simp_all
          rw [e6, e4]
          clear hd
          gi_wp2
          first | exact ⟨_, rfl, ⟨rfl⟩, rfl⟩ | (refine ⟨.pointer (some ⟨g, 4, none⟩), ?_, ⟨rfl⟩, rfl⟩; simp [updV, e6, e4]) | (refine ⟨?_, ⟨rfl⟩⟩; simp [updV, e6, e4])
        case o8 =>
          rw [if_pos (show Region.wanted _ _ = true from rfl)]
          have e7 : y 7 = .pointer (some ⟨g, 4, none⟩) := by simp_all
          rw [e7]
          clear hd
          gi_wp2
          first | exact ⟨_, rfl, ⟨rfl⟩, rfl⟩ | (refine ⟨.pointer ra, ?_, ⟨rfl⟩, rfl⟩; simp [updV, e7]) | (refine ⟨?_, ⟨rfl⟩⟩; simp [updV, e7])
        case o9 =>
          rw [if_pos (show Region.wanted _ _ = true from rfl)]
          clear hd
          gi_wp2
          first | exact ⟨_, rfl, ⟨rfl⟩, rfl⟩ | (refine ⟨.int .i64 1, ?_, ⟨rfl⟩, rfl⟩; simp [updV]) | (refine ⟨?_, ⟨rfl⟩⟩; simp [updV])
        case o10 =>
          rw [if_pos (show Region.wanted _ _ = true from rfl)]
          clear hd
          gi_wp2
          first | exact ⟨_, rfl, ⟨rfl⟩, rfl⟩ | (refine ⟨.func (.yield lx) #[] #[], ?_, ⟨rfl⟩, rfl⟩; simp [updV]) | (refine ⟨?_, ⟨rfl⟩⟩; simp [updV])
      case hend =>
        rintro y W rfl hv
        have e3 : y 3 = .pointer (some ⟨g, 0, none⟩) := hv 3 (by decide)
        have e4 : y 4 = .int .i64 1 := hv 4 (by decide)
        have e5 : y 5 = .pointer (some ⟨g, 0, none⟩) := hv 5 (by decide)
        have e6 : y 6 = .pointer (some ⟨g, 3, none⟩) := hv 6 (by decide)
        have e7 : y 7 = .pointer (some ⟨g, 4, none⟩) := hv 7 (by decide)
        have e8 : y 8 = .pointer ra := hv 8 (by decide)
        have e9 : y 9 = .int .i64 1 := hv 9 (by decide)
        have e10 : y 10 = .func (.yield lx) #[] #[] := hv 10 (by decide)
        clear hv
        rw [e3, e4, e5, e6, e7, e8, e9, e10]
        clear e3 e4 e5 e6 e7 e8 e9 e10
        refine Left.one (fun _ => trivial) 11 rfl (by decide +kernel) (by decide +kernel) ?_
        intro Q hQ
        rw [if_pos (show Region.wanted _ _ = true from rfl)]
        gi_wp2_with fail
        refine ⟨trivial, ?_⟩
        refine (callsIn_wide.2 HI1.out).mono ?_
        rintro e W2 (⟨rfl, hR2, s2, hr2, hJ2⟩ | ⟨rfl, c, hD, hX⟩)
        · gi_wp2
          obtain ⟨k0, k1, k3, k4⟩ := HCE.out W2 (HC.out.stay _ _ hJ2)
          obtain ⟨fn, tmps, assign, body, hy, hRR⟩ := HY.out s2 (k, v) W2 hR2 (HC.out.yield s2 W2 (k, v) _ hJ2 hr2)
          have HRR := Lib.hid (round_wide (m' := 1) hRR)
          have HR2 := Lib.hid hr2
          clear hRR hR2 hJ2 hr2
          refine Left.stageL (fun _ => trivial) 12 13 (by decide) (by decide) (by decide +kernel) (by decide +kernel) (fun y => { tmps := #[.pointer (some ⟨g, 0, none⟩), .int .i64 1, .func (.yield lx) #[] #[], undef, undef, undef, .bool false, .pointer (some ⟨g, 0, none⟩), .bool false, .bool false, .pointer (some ⟨g, 0, none⟩), .int .i64 1, .pointer (some ⟨g, 0, none⟩), .pointer (some ⟨g, 3, none⟩), .pointer (some ⟨g, 4, none⟩), .pointer ra, .int .i64 1, .func (.yield lx) #[] #[], .bool true, y 12, undef, undef, undef, undef, undef, undef, undef, undef, undef, undef, undef, undef, undef, undef, undef, undef, undef, undef, undef, undef, undef, undef, undef, undef], defers := [] }) (fun W => W2 = W) (fun i u W => match i with
            | 12 => u = .bool true
            | _ => True) (fun A B => SameW A B) ?hC ?hV (fun _ => undef) ?hw ?h0 ?hop ?hend
          case hC => exact fun A B h e => h.trans e.eq
          case hV => exact fun i u A B h e => by obtain ⟨rfl⟩ := e; exact h
          case hw => exact rfl
          case h0 =>
            intro i hi
            have hi' : i = 0 ∨ i = 1 ∨ i = 2 ∨ i = 3 ∨ i = 4 ∨ i = 5 ∨ i = 6 ∨ i = 7 ∨ i = 8 ∨ i = 9 ∨ i = 10 ∨ i = 11 := by omega
            rcases hi' with rfl | rfl | rfl | rfl | rfl | rfl | rfl | rfl | rfl | rfl | rfl | rfl
            all_goals exact trivial
          case hop =>
            simp only [AllDoIn, List.take_succ_cons, List.take_zero, List.drop_succ_cons, List.drop_zero, Nat.reduceAdd]
            refine ⟨?o12, trivial⟩
            all_goals rintro y W rfl hd Q hQ
            all_goals simp [Region.binds] at hd
            case o12 =>
              rw [if_pos (show Region.wanted _ _ = true from rfl)]
              clear hd
              gi_wp2
              first | exact ⟨_, rfl, ⟨rfl⟩, rfl⟩ | (refine ⟨.bool true, ?_, ⟨rfl⟩, rfl⟩; simp [updV]) | (refine ⟨?_, ⟨rfl⟩⟩; simp [updV])
          case hend =>
            rintro y W rfl hv
            have e12 : y 12 = .bool true := hv 12 (by decide)
            clear hv
            rw [e12]
            clear e12
            refine Left.stageL (fun _ => trivial) 13 22 (by decide) (by decide) (by decide +kernel) (by decide +kernel) (fun y => { tmps := #[.pointer (some ⟨g, 0, none⟩), .int .i64 1, .func (.yield lx) #[] #[], undef, undef, undef, .bool false, .pointer (some ⟨g, 0, none⟩), .bool false, .bool false, .pointer (some ⟨g, 0, none⟩), .int .i64 1, .pointer (some ⟨g, 0, none⟩), .pointer (some ⟨g, 3, none⟩), .pointer (some ⟨g, 4, none⟩), .pointer ra, .int .i64 1, .func (.yield lx) #[] #[], .bool true, .bool true, y 13, y 14, y 15, y 16, y 17, y 18, y 19, y 20, y 21, undef, undef, undef, undef, undef, undef, undef, undef, undef, undef, undef, undef, undef, undef, undef], defers := [] }) (fun W => W2 = W) (fun i u W => match i with
              | 13 => u = .func (.yield lx) #[] #[]
              | 14 => u = .pointer (some ⟨g, 0, none⟩)
              | 15 => u = .pointer (some ⟨g, 0, none⟩)
              | 16 => u = .pointer (some ⟨g, 0, none⟩)
              | 17 => u = .int .u64 k
              | 18 => u = .pointer (some ⟨g, 0, none⟩)
              | 19 => u = .pointer (some ⟨g, 0, none⟩)
              | 20 => u = .pointer (some ⟨g, 1, none⟩)
              | 21 => u = .int .i64 v
              | _ => True) (fun A B => SameW A B) ?hC ?hV (fun _ => undef) ?hw ?h0 ?hop ?hend
            case hC => exact fun A B h e => h.trans e.eq
            case hV => exact fun i u A B h e => by obtain ⟨rfl⟩ := e; exact h
            case hw => exact rfl
            case h0 =>
              intro i hi
              have hi' : i = 0 ∨ i = 1 ∨ i = 2 ∨ i = 3 ∨ i = 4 ∨ i = 5 ∨ i = 6 ∨ i = 7 ∨ i = 8 ∨ i = 9 ∨ i = 10 ∨ i = 11 ∨ i = 12 := by omega
              rcases hi' with rfl | rfl | rfl | rfl | rfl | rfl | rfl | rfl | rfl | rfl | rfl | rfl | rfl
              all_goals exact trivial
            case hop =>
              simp only [AllDoIn, List.take_succ_cons, List.take_zero, List.drop_succ_cons, List.drop_zero, Nat.reduceAdd]
              refine ⟨?o13, ?o14, ?o15, ?o16, ?o17, ?o18, ?o19, ?o20, ?o21, trivial⟩
              all_goals rintro y W rfl hd Q hQ
              all_goals simp [Region.binds] at hd
              case o13 =>
                rw [if_pos (show Region.wanted _ _ = true from rfl)]
                clear hd
                gi_wp2
                first | exact ⟨_, rfl, ⟨rfl⟩, rfl⟩ | (refine ⟨.func (.yield lx) #[] #[], ?_, ⟨rfl⟩, rfl⟩; simp [updV]) | (refine ⟨?_, ⟨rfl⟩⟩; simp [updV])
              case o14 =>
                rw [if_pos (show Region.wanted _ _ = true from rfl)]
                clear hd
                gi_wp2
                first | exact ⟨_, rfl, ⟨rfl⟩, rfl⟩ | (refine ⟨.pointer (some ⟨g, 0, none⟩), ?_, ⟨rfl⟩, rfl⟩; simp [updV]) | (refine ⟨?_, ⟨rfl⟩⟩; simp [updV])
              case o15 =>
                rw [if_pos (show Region.wanted _ _ = true from rfl)]
                have e14 : y 14 = .pointer (some ⟨g, 0, none⟩) := by simp_all
                rw [e14]
                clear hd
                gi_wp2
                first | exact ⟨_, rfl, ⟨rfl⟩, rfl⟩ | (refine ⟨.pointer (some ⟨g, 0, none⟩), ?_, ⟨rfl⟩, rfl⟩; simp [updV, e14]) | (refine ⟨?_, ⟨rfl⟩⟩; simp [updV, e14])
              case o16 =>
                rw [if_pos (show Region.wanted _ _ = true from rfl)]
                have e15 : y 15 = .pointer (some ⟨g, 0, none⟩) := by simp_all
                rw [e15]
                clear hd
                gi_wp2
                first | exact ⟨_, rfl, ⟨rfl⟩, rfl⟩ | (refine ⟨.pointer (some ⟨g, 0, none⟩), ?_, ⟨rfl⟩, rfl⟩; simp [updV, e15]) | (refine ⟨?_, ⟨rfl⟩⟩; simp [updV, e15])
              case o17 =>
                rw [if_pos (show Region.wanted _ _ = true from rfl)]
                have e16 : y 16 = .pointer (some ⟨g, 0, none⟩) := by simp_all
                rw [e16]
                clear hd
                gi_wp2
                first | exact ⟨_, rfl, ⟨rfl⟩, rfl⟩ | (refine ⟨.int .u64 k, ?_, ⟨rfl⟩, rfl⟩; simp [updV, e16]) | (refine ⟨?_, ⟨rfl⟩⟩; simp [updV, e16])
              case o18 =>
                rw [if_pos (show Region.wanted _ _ = true from rfl)]
                clear hd
                gi_wp2
                first | exact ⟨_, rfl, ⟨rfl⟩, rfl⟩ | (refine ⟨.pointer (some ⟨g, 0, none⟩), ?_, ⟨rfl⟩, rfl⟩; simp [updV]) | (refine ⟨?_, ⟨rfl⟩⟩; simp [updV])
              case o19 =>
                rw [if_pos (show Region.wanted _ _ = true from rfl)]
                have e18 : y 18 = .pointer (some ⟨g, 0, none⟩) := by simp_all
                rw [e18]
                clear hd
                gi_wp2
                first | exact ⟨_, rfl, ⟨rfl⟩, rfl⟩ | (refine ⟨.pointer (some ⟨g, 0, none⟩), ?_, ⟨rfl⟩, rfl⟩; simp [updV, e18]) | (refine ⟨?_, ⟨rfl⟩⟩; simp [updV, e18])
              case o20 =>
                rw [if_pos (show Region.wanted _ _ = true from rfl)]
                have e19 : y 19 = .pointer (some ⟨g, 0, none⟩) := by simp_all
                rw [e19]
                clear hd
                gi_wp2
                first | exact ⟨_, rfl, ⟨rfl⟩, rfl⟩ | (refine ⟨.pointer (some ⟨g, 1, none⟩), ?_, ⟨rfl⟩, rfl⟩; simp [updV, e19]) | (refine ⟨?_, ⟨rfl⟩⟩; simp [updV, e19])
              case o21 =>
                rw [if_pos (show Region.wanted _ _ = true from rfl)]
                have e20 : y 20 = .pointer (some ⟨g, 1, none⟩) := by simp_all
                rw [e20]
                clear hd
                gi_wp2
                first | exact ⟨_, rfl, ⟨rfl⟩, rfl⟩ | (refine ⟨.int .i64 v, ?_, ⟨rfl⟩, rfl⟩; simp [updV, e20]) | (refine ⟨?_, ⟨rfl⟩⟩; simp [updV, e20])
            case hend =>
              rintro y W rfl hv
              have e13 : y 13 = .func (.yield lx) #[] #[] := hv 13 (by decide)
              have e14 : y 14 = .pointer (some ⟨g, 0, none⟩) := hv 14 (by decide)
              have e15 : y 15 = .pointer (some ⟨g, 0, none⟩) := hv 15 (by decide)
              have e16 : y 16 = .pointer (some ⟨g, 0, none⟩) := hv 16 (by decide)
              have e17 : y 17 = .int .u64 k := hv 17 (by decide)
              have e18 : y 18 = .pointer (some ⟨g, 0, none⟩) := hv 18 (by decide)
              have e19 : y 19 = .pointer (some ⟨g, 0, none⟩) := hv 19 (by decide)
              have e20 : y 20 = .pointer (some ⟨g, 1, none⟩) := hv 20 (by decide)
              have e21 : y 21 = .int .i64 v := hv 21 (by decide)
              clear hv
              rw [e13, e14, e15, e16, e17, e18, e19, e20, e21]
              clear e13 e14 e15 e16 e17 e18 e19 e20 e21
              refine Left.one (fun _ => trivial) 22 rfl (by decide +kernel) (by decide +kernel) ?_
              intro Q hQ
              rw [if_pos (show Region.wanted _ _ = true from rfl)]
              gi_wp2_with fail
              refine HRR.out.mono ?_
              rintro e W3 (⟨rfl, hR3, s3, hA3, hJ3⟩ | ⟨rfl, c, hD, hX⟩)
              · gi_wp2
                obtain ⟨k0, k1, k3, k4⟩ := HCE.out W3 (HC.out.stay _ _ hJ3)
                have hn3 := HC.out.next _ _ hA3
                rw [HR2.out, List.tail_cons] at hn3
                have HI2 := Lib.hid (IH2 R s3 W3 hJ3 hR3 hn3)
                clear hn3 hJ3 hR3 hA3 HRR hy
                refine Left.stageL (fun _ => trivial) 23 25 (by decide) (by decide) (by decide +kernel) (by decide +kernel) (fun y => { tmps := #[.pointer (some ⟨g, 0, none⟩), .int .i64 1, .func (.yield lx) #[] #[], undef, undef, undef, .bool false, .pointer (some ⟨g, 0, none⟩), .bool false, .bool false, .pointer (some ⟨g, 0, none⟩), .int .i64 1, .pointer (some ⟨g, 0, none⟩), .pointer (some ⟨g, 3, none⟩), .pointer (some ⟨g, 4, none⟩), .pointer ra, .int .i64 1, .func (.yield lx) #[] #[], .bool true, .bool true, .func (.yield lx) #[] #[], .pointer (some ⟨g, 0, none⟩), .pointer (some ⟨g, 0, none⟩), .pointer (some ⟨g, 0, none⟩), .int .u64 k, .pointer (some ⟨g, 0, none⟩), .pointer (some ⟨g, 0, none⟩), .pointer (some ⟨g, 1, none⟩), .int .i64 v, .bool true, y 23, y 24, undef, undef, undef, undef, undef, undef, undef, undef, undef, undef, undef, undef], defers := [] }) (fun W => W3 = W) (fun i u W => match i with
                  | 23 => u = .bool true
                  | 24 => u = .bool true
                  | _ => True) (fun A B => SameW A B) ?hC ?hV (fun _ => undef) ?hw ?h0 ?hop ?hend
                case hC => exact fun A B h e => h.trans e.eq
                case hV => exact fun i u A B h e => by obtain ⟨rfl⟩ := e; exact h
                case hw => exact rfl
                case h0 =>
                  intro i hi
                  have hi' : i = 0 ∨ i = 1 ∨ i = 2 ∨ i = 3 ∨ i = 4 ∨ i = 5 ∨ i = 6 ∨ i = 7 ∨ i = 8 ∨ i = 9 ∨ i = 10 ∨ i = 11 ∨ i = 12 ∨ i = 13 ∨ i = 14 ∨ i = 15 ∨ i = 16 ∨ i = 17 ∨ i = 18 ∨ i = 19 ∨ i = 20 ∨ i = 21 ∨ i = 22 := by omega
                  rcases hi' with rfl | rfl | rfl | rfl | rfl | rfl | rfl | rfl | rfl | rfl | rfl | rfl | rfl | rfl | rfl | rfl | rfl | rfl | rfl | rfl | rfl | rfl | rfl
                  all_goals exact trivial
                case hop =>
                  simp only [AllDoIn, List.take_succ_cons, List.take_zero, List.drop_succ_cons, List.drop_zero, Nat.reduceAdd]
                  refine ⟨?o23, ?o24, trivial⟩
                  all_goals rintro y W rfl hd Q hQ
                  all_goals simp [Region.binds] at hd
                  case o23 =>
                    rw [if_pos (show Region.wanted _ _ = true from rfl)]
                    clear hd
                    gi_wp2
                    first | exact ⟨_, rfl, ⟨rfl⟩, rfl⟩ | (refine ⟨.bool true, ?_, ⟨rfl⟩, rfl⟩; simp [updV]) | (refine ⟨?_, ⟨rfl⟩⟩; simp [updV])
                  case o24 =>
                    rw [if_pos (show Region.wanted _ _ = true from rfl)]
                    have e23 : y 23 = .bool true := by simp_all
                    rw [e23]
                    clear hd
                    gi_wp2
                    first | exact ⟨_, rfl, ⟨rfl⟩, rfl⟩ | (refine ⟨.bool true, ?_, ⟨rfl⟩, rfl⟩; simp [updV, e23]) | (refine ⟨?_, ⟨rfl⟩⟩; simp [updV, e23])
                case hend =>
                  rintro y W rfl hv
                  have e23 : y 23 = .bool true := hv 23 (by decide)
                  have e24 : y 24 = .bool true := hv 24 (by decide)
                  clear hv
                  rw [e23, e24]
                  clear e23 e24
                  refine Left.stageL (fun _ => trivial) 25 34 (by decide) (by decide) (by decide +kernel) (by decide +kernel) (fun y => { tmps := #[.pointer (some ⟨g, 0, none⟩), .int .i64 1, .func (.yield lx) #[] #[], undef, undef, undef, .bool false, .pointer (some ⟨g, 0, none⟩), .bool false, .bool false, .pointer (some ⟨g, 0, none⟩), .int .i64 1, .pointer (some ⟨g, 0, none⟩), .pointer (some ⟨g, 3, none⟩), .pointer (some ⟨g, 4, none⟩), .pointer ra, .int .i64 1, .func (.yield lx) #[] #[], .bool true, .bool true, .func (.yield lx) #[] #[], .pointer (some ⟨g, 0, none⟩), .pointer (some ⟨g, 0, none⟩), .pointer (some ⟨g, 0, none⟩), .int .u64 k, .pointer (some ⟨g, 0, none⟩), .pointer (some ⟨g, 0, none⟩), .pointer (some ⟨g, 1, none⟩), .int .i64 v, .bool true, .bool true, .bool true, y 25, y 26, y 27, y 28, y 29, y 30, y 31, y 32, y 33, undef, undef, undef], defers := [] }) (fun W => W3 = W) (fun i u W => match i with
                    | 25 => u = .pointer (some ⟨g, 0, none⟩)
                    | 26 => u = .int .i64 1
                    | 27 => u = .int .i64 0
                    | 28 => u = .pointer (some ⟨g, 0, none⟩)
                    | 29 => u = .pointer (some ⟨g, 3, none⟩)
                    | 30 => u = .pointer (some ⟨g, 3, none⟩)
                    | 31 => u = .pointer la
                    | 32 => u = .int .i64 1
                    | 33 => u = .func (.yield lx) #[] #[]
                    | _ => True) (fun A B => SameW A B) ?hC ?hV (fun _ => undef) ?hw ?h0 ?hop ?hend
                  case hC => exact fun A B h e => h.trans e.eq
                  case hV => exact fun i u A B h e => by obtain ⟨rfl⟩ := e; exact h
                  case hw => exact rfl
                  case h0 =>
                    intro i hi
                    have hi' : i = 0 ∨ i = 1 ∨ i = 2 ∨ i = 3 ∨ i = 4 ∨ i = 5 ∨ i = 6 ∨ i = 7 ∨ i = 8 ∨ i = 9 ∨ i = 10 ∨ i = 11 ∨ i = 12 ∨ i = 13 ∨ i = 14 ∨ i = 15 ∨ i = 16 ∨ i = 17 ∨ i = 18 ∨ i = 19 ∨ i = 20 ∨ i = 21 ∨ i = 22 ∨ i = 23 ∨ i = 24 := by omega
                    rcases hi' with rfl | rfl | rfl | rfl | rfl | rfl | rfl | rfl | rfl | rfl | rfl | rfl | rfl | rfl | rfl | rfl | rfl | rfl | rfl | rfl | rfl | rfl | rfl | rfl | rfl
                    all_goals exact trivial
                  case hop =>
                    simp only [AllDoIn, List.take_succ_cons, List.take_zero, List.drop_succ_cons, List.drop_zero, Nat.reduceAdd]
                    refine ⟨?o25, ?o26, ?o27, ?o28, ?o29, ?o30, ?o31, ?o32, ?o33, trivial⟩
                    all_goals rintro y W rfl hd Q hQ
                    all_goals simp [Region.binds] at hd
                    case o25 =>
                      rw [if_pos (show Region.wanted _ _ = true from rfl)]
                      clear hd
                      gi_wp2
                      first | exact ⟨_, rfl, ⟨rfl⟩, rfl⟩ | (refine ⟨.pointer (some ⟨g, 0, none⟩), ?_, ⟨rfl⟩, rfl⟩; simp [updV]) | (refine ⟨?_, ⟨rfl⟩⟩; simp [updV])
                    case o26 =>
                      rw [if_pos (show Region.wanted _ _ = true from rfl)]
                      clear hd
                      gi_wp2
                      first | exact ⟨_, rfl, ⟨rfl⟩, rfl⟩ | (refine ⟨.int .i64 1, ?_, ⟨rfl⟩, rfl⟩; simp [updV]) | (refine ⟨?_, ⟨rfl⟩⟩; simp [updV])
                    case o27 =>
                      rw [if_pos (show Region.wanted _ _ = true from rfl)]
                      have e26 : y 26 = .int .i64 1 := by simp_all
                      rw [e26]
                      clear hd
                      gi_wp2
                      first | exact ⟨_, rfl, ⟨rfl⟩, rfl⟩ | (refine ⟨.int .i64 0, ?_, ⟨rfl⟩, rfl⟩; simp [updV, e26]) | (refine ⟨?_, ⟨rfl⟩⟩; simp [updV, e26])
                    case o28 =>
                      rw [if_pos (show Region.wanted _ _ = true from rfl)]
                      have e25 : y 25 = .pointer (some ⟨g, 0, none⟩) := by simp_all
                      rw [e25]
                      clear hd
                      gi_wp2
                      first | exact ⟨_, rfl, ⟨rfl⟩, rfl⟩ | (refine ⟨.pointer (some ⟨g, 0, none⟩), ?_, ⟨rfl⟩, rfl⟩; simp [updV, e25]) | (refine ⟨?_, ⟨rfl⟩⟩; simp [updV, e25])
                    case o29 =>
                      rw [if_pos (show Region.wanted _ _ = true from rfl)]
                      have e28 : y 28 = .pointer (some ⟨g, 0, none⟩) := by simp_all
                      rw [e28]
                      clear hd
                      gi_wp2
                      first | exact ⟨_, rfl, ⟨rfl⟩, rfl⟩ | (refine ⟨.pointer (some ⟨g, 3, none⟩), ?_, ⟨rfl⟩, rfl⟩; simp [updV, e28]) | (refine ⟨?_, ⟨rfl⟩⟩; simp [updV, e28])
                    case o30 =>
                      rw [if_pos (show Region.wanted _ _ = true from rfl)]
                      have e29 : y 29 = .pointer (some ⟨g, 3, none⟩) := by simp_all
                      have e27 : y 27 = .int .i64 0 := by simp_all
                      rw [e29, e27]
                      clear hd
                      gi_wp2
                      first | exact ⟨_, rfl, ⟨rfl⟩, rfl⟩ | (refine ⟨.pointer (some ⟨g, 3, none⟩), ?_, ⟨rfl⟩, rfl⟩; simp [updV, e29, e27]) | (refine ⟨?_, ⟨rfl⟩⟩; simp [updV, e29, e27])
                    case o31 =>
                      rw [if_pos (show Region.wanted _ _ = true from rfl)]
                      have e30 : y 30 = .pointer (some ⟨g, 3, none⟩) := by simp_all
                      rw [e30]
                      clear hd
                      gi_wp2
                      first | exact ⟨_, rfl, ⟨rfl⟩, rfl⟩ | (refine ⟨.pointer la, ?_, ⟨rfl⟩, rfl⟩; simp [updV, e30]) | (refine ⟨?_, ⟨rfl⟩⟩; simp [updV, e30])
                    case o32 =>
                      rw [if_pos (show Region.wanted _ _ = true from rfl)]
                      clear hd
                      gi_wp2
                      first | exact ⟨_, rfl, ⟨rfl⟩, rfl⟩ | (refine ⟨.int .i64 1, ?_, ⟨rfl⟩, rfl⟩; simp [updV]) | (refine ⟨?_, ⟨rfl⟩⟩; simp [updV])
                    case o33 =>
                      rw [if_pos (show Region.wanted _ _ = true from rfl)]
                      clear hd
                      gi_wp2
                      first | exact ⟨_, rfl, ⟨rfl⟩, rfl⟩ | (refine ⟨.func (.yield lx) #[] #[], ?_, ⟨rfl⟩, rfl⟩; simp [updV]) | (refine ⟨?_, ⟨rfl⟩⟩; simp [updV])
                  case hend =>
                    rintro y W rfl hv
                    have e25 : y 25 = .pointer (some ⟨g, 0, none⟩) := hv 25 (by decide)
                    have e26 : y 26 = .int .i64 1 := hv 26 (by decide)
                    have e27 : y 27 = .int .i64 0 := hv 27 (by decide)
                    have e28 : y 28 = .pointer (some ⟨g, 0, none⟩) := hv 28 (by decide)
                    have e29 : y 29 = .pointer (some ⟨g, 3, none⟩) := hv 29 (by decide)
                    have e30 : y 30 = .pointer (some ⟨g, 3, none⟩) := hv 30 (by decide)
                    have e31 : y 31 = .pointer la := hv 31 (by decide)
                    have e32 : y 32 = .int .i64 1 := hv 32 (by decide)
                    have e33 : y 33 = .func (.yield lx) #[] #[] := hv 33 (by decide)
                    clear hv
                    rw [e25, e26, e27, e28, e29, e30, e31, e32, e33]
                    clear e25 e26 e27 e28 e29 e30 e31 e32 e33
                    refine Left.one (fun _ => trivial) 34 rfl (by decide +kernel) (by decide +kernel) ?_
                    intro Q hQ
                    rw [if_pos (show Region.wanted _ _ = true from rfl)]
                    gi_wp2_with fail
                    refine ⟨trivial, ?_⟩
                    refine (callsIn_wide.2 HI2.out).mono ?_
                    rintro e W4 (⟨rfl, hR4, s4, hr4, hJ4⟩ | ⟨rfl, c, hD, hX⟩)
                    · gi_wp2
                      refine Left.stageL (fun _ => trivial) 35 38 (by decide) (by decide) (by decide +kernel) (by decide +kernel) (fun y => { tmps := #[.pointer (some ⟨g, 0, none⟩), .int .i64 1, .func (.yield lx) #[] #[], undef, undef, undef, y 37, .pointer (some ⟨g, 0, none⟩), .bool false, .bool false, .pointer (some ⟨g, 0, none⟩), .int .i64 1, .pointer (some ⟨g, 0, none⟩), .pointer (some ⟨g, 3, none⟩), .pointer (some ⟨g, 4, none⟩), .pointer ra, .int .i64 1, .func (.yield lx) #[] #[], .bool true, .bool true, .func (.yield lx) #[] #[], .pointer (some ⟨g, 0, none⟩), .pointer (some ⟨g, 0, none⟩), .pointer (some ⟨g, 0, none⟩), .int .u64 k, .pointer (some ⟨g, 0, none⟩), .pointer (some ⟨g, 0, none⟩), .pointer (some ⟨g, 1, none⟩), .int .i64 v, .bool true, .bool true, .bool true, .pointer (some ⟨g, 0, none⟩), .int .i64 1, .int .i64 0, .pointer (some ⟨g, 0, none⟩), .pointer (some ⟨g, 3, none⟩), .pointer (some ⟨g, 3, none⟩), .pointer la, .int .i64 1, .func (.yield lx) #[] #[], .bool true, y 35, y 36], defers := [] }) (fun W => W4 = W) (fun i u W => match i with
                        | 35 => u = .bool true
                        | 36 => u = .bool true
                        | 37 => u = .bool true
                        | _ => True) (fun A B => SameW A B) ?hC ?hV (fun i => if i = 37 then .bool false else undef) ?hw ?h0 ?hop ?hend
                      case hC => exact fun A B h e => h.trans e.eq
                      case hV => exact fun i u A B h e => by obtain ⟨rfl⟩ := e; exact h
                      case hw => exact rfl
                      case h0 =>
                        intro i hi
                        have hi' : i = 0 ∨ i = 1 ∨ i = 2 ∨ i = 3 ∨ i = 4 ∨ i = 5 ∨ i = 6 ∨ i = 7 ∨ i = 8 ∨ i = 9 ∨ i = 10 ∨ i = 11 ∨ i = 12 ∨ i = 13 ∨ i = 14 ∨ i = 15 ∨ i = 16 ∨ i = 17 ∨ i = 18 ∨ i = 19 ∨ i = 20 ∨ i = 21 ∨ i = 22 ∨ i = 23 ∨ i = 24 ∨ i = 25 ∨ i = 26 ∨ i = 27 ∨ i = 28 ∨ i = 29 ∨ i = 30 ∨ i = 31 ∨ i = 32 ∨ i = 33 ∨ i = 34 := by omega
                        rcases hi' with rfl | rfl | rfl | rfl | rfl | rfl | rfl | rfl | rfl | rfl | rfl | rfl | rfl | rfl | rfl | rfl | rfl | rfl | rfl | rfl | rfl | rfl | rfl | rfl | rfl | rfl | rfl | rfl | rfl | rfl | rfl | rfl | rfl | rfl | rfl
                        all_goals exact trivial
                      case hop =>
                        simp only [AllDoIn, List.take_succ_cons, List.take_zero, List.drop_succ_cons, List.drop_zero, Nat.reduceAdd]
                        refine ⟨?o35, ?o36, ?o37, trivial⟩
                        all_goals rintro y W rfl hd Q hQ
                        all_goals simp [Region.binds] at hd
                        case o35 =>
                          rw [if_pos (show Region.wanted _ _ = true from rfl)]
                          clear hd
                          gi_wp2
                          first | exact ⟨_, rfl, ⟨rfl⟩, rfl⟩ | (refine ⟨.bool true, ?_, ⟨rfl⟩, rfl⟩; simp [updV]) | (refine ⟨?_, ⟨rfl⟩⟩; simp [updV])
                        case o36 =>
                          rw [if_pos (show Region.wanted _ _ = true from rfl)]
                          have e35 : y 35 = .bool true := by simp_all
                          rw [e35]
                          clear hd
                          gi_wp2
                          first | exact ⟨_, rfl, ⟨rfl⟩, rfl⟩ | (refine ⟨.bool true, ?_, ⟨rfl⟩, rfl⟩; simp [updV, e35]) | (refine ⟨?_, ⟨rfl⟩⟩; simp [updV, e35])
                        case o37 =>
                          rw [if_pos (show Region.wanted _ _ = true from rfl)]
                          have e36 : y 36 = .bool true := by simp_all
                          rw [e36]
                          clear hd
                          gi_wp2
                          first | exact ⟨_, rfl, ⟨rfl⟩, rfl⟩ | (refine ⟨.bool true, ?_, ⟨rfl⟩, rfl⟩; simp [updV, e36]) | (refine ⟨?_, ⟨rfl⟩⟩; simp [updV, e36])
                      case hend =>
                        rintro y W rfl hv
                        have e35 : y 35 = .bool true := hv 35 (by decide)
                        have e36 : y 36 = .bool true := hv 36 (by decide)
                        have e37 : y 37 = .bool true := hv 37 (by decide)
                        clear hv
                        rw [e35, e36, e37]
                        clear e35 e36 e37
                        refine Left.end_ ?_
                        gi_wp2
                        refine bodyPost_ret (results_tmp rfl _ _ _) rfl ?_
                        exact .inl ⟨rfl, hR4, s4, hr4, hJ4⟩
                    · gi_wp2
                      refine Left.stageL (fun _ => trivial) 35 38 (by decide) (by decide) (by decide +kernel) (by decide +kernel) (fun y => { tmps := #[.pointer (some ⟨g, 0, none⟩), .int .i64 1, .func (.yield lx) #[] #[], undef, undef, undef, y 37, .pointer (some ⟨g, 0, none⟩), .bool false, .bool false, .pointer (some ⟨g, 0, none⟩), .int .i64 1, .pointer (some ⟨g, 0, none⟩), .pointer (some ⟨g, 3, none⟩), .pointer (some ⟨g, 4, none⟩), .pointer ra, .int .i64 1, .func (.yield lx) #[] #[], .bool true, .bool true, .func (.yield lx) #[] #[], .pointer (some ⟨g, 0, none⟩), .pointer (some ⟨g, 0, none⟩), .pointer (some ⟨g, 0, none⟩), .int .u64 k, .pointer (some ⟨g, 0, none⟩), .pointer (some ⟨g, 0, none⟩), .pointer (some ⟨g, 1, none⟩), .int .i64 v, .bool true, .bool true, .bool true, .pointer (some ⟨g, 0, none⟩), .int .i64 1, .int .i64 0, .pointer (some ⟨g, 0, none⟩), .pointer (some ⟨g, 3, none⟩), .pointer (some ⟨g, 3, none⟩), .pointer la, .int .i64 1, .func (.yield lx) #[] #[], .bool false, y 35, y 36], defers := [] }) (fun W => W4 = W) (fun i u W => match i with
                        | 35 => u = .bool false
                        | 36 => u = .bool false
                        | 37 => u = .bool false
                        | _ => True) (fun A B => SameW A B) ?hC ?hV (fun i => if i = 37 then .bool false else undef) ?hw ?h0 ?hop ?hend
                      case hC => exact fun A B h e => h.trans e.eq
                      case hV => exact fun i u A B h e => by obtain ⟨rfl⟩ := e; exact h
                      case hw => exact rfl
                      case h0 =>
                        intro i hi
                        have hi' : i = 0 ∨ i = 1 ∨ i = 2 ∨ i = 3 ∨ i = 4 ∨ i = 5 ∨ i = 6 ∨ i = 7 ∨ i = 8 ∨ i = 9 ∨ i = 10 ∨ i = 11 ∨ i = 12 ∨ i = 13 ∨ i = 14 ∨ i = 15 ∨ i = 16 ∨ i = 17 ∨ i = 18 ∨ i = 19 ∨ i = 20 ∨ i = 21 ∨ i = 22 ∨ i = 23 ∨ i = 24 ∨ i = 25 ∨ i = 26 ∨ i = 27 ∨ i = 28 ∨ i = 29 ∨ i = 30 ∨ i = 31 ∨ i = 32 ∨ i = 33 ∨ i = 34 := by omega
                        rcases hi' with rfl | rfl | rfl | rfl | rfl | rfl | rfl | rfl | rfl | rfl | rfl | rfl | rfl | rfl | rfl | rfl | rfl | rfl | rfl | rfl | rfl | rfl | rfl | rfl | rfl | rfl | rfl | rfl | rfl | rfl | rfl | rfl | rfl | rfl | rfl
                        all_goals exact trivial
                      case hop =>
                        simp only [AllDoIn, List.take_succ_cons, List.take_zero, List.drop_succ_cons, List.drop_zero, Nat.reduceAdd]
                        refine ⟨?o35, ?o36, ?o37, trivial⟩
                        all_goals rintro y W rfl hd Q hQ
                        all_goals simp [Region.binds] at hd
                        case o35 =>
                          rw [if_pos (show Region.wanted _ _ = true from rfl)]
                          clear hd
                          gi_wp2
                          first | exact ⟨_, rfl, ⟨rfl⟩, rfl⟩ | (refine ⟨.bool false, ?_, ⟨rfl⟩, rfl⟩; simp [updV]) | (refine ⟨?_, ⟨rfl⟩⟩; simp [updV])
                        case o36 =>
                          rw [if_pos (show Region.wanted _ _ = true from rfl)]
                          have e35 : y 35 = .bool false := by simp_all
                          rw [e35]
                          clear hd
                          gi_wp2
                          first | exact ⟨_, rfl, ⟨rfl⟩, rfl⟩ | (refine ⟨.bool false, ?_, ⟨rfl⟩, rfl⟩; simp [updV, e35]) | (refine ⟨?_, ⟨rfl⟩⟩; simp [updV, e35])
                        case o37 =>
                          rw [if_pos (show Region.wanted _ _ = true from rfl)]
                          have e36 : y 36 = .bool false := by simp_all
                          rw [e36]
                          clear hd
                          gi_wp2
                          first | exact ⟨_, rfl, ⟨rfl⟩, rfl⟩ | (refine ⟨.bool false, ?_, ⟨rfl⟩, rfl⟩; simp [updV, e36]) | (refine ⟨?_, ⟨rfl⟩⟩; simp [updV, e36])
                      case hend =>
                        rintro y W rfl hv
                        have e35 : y 35 = .bool false := hv 35 (by decide)
                        have e36 : y 36 = .bool false := hv 36 (by decide)
                        have e37 : y 37 = .bool false := hv 37 (by decide)
                        clear hv
                        rw [e35, e36, e37]
                        clear e35 e36 e37
                        refine Left.end_ ?_
                        gi_wp2
                        refine bodyPost_ret (results_tmp rfl _ _ _) rfl ?_
                        exact .inr ⟨rfl, c, hD, hX⟩
              · gi_wp2
                refine Left.stageL (fun _ => trivial) 23 25 (by decide) (by decide) (by decide +kernel) (by decide +kernel) (fun y => { tmps := #[.pointer (some ⟨g, 0, none⟩), .int .i64 1, .func (.yield lx) #[] #[], undef, undef, undef, .bool false, .pointer (some ⟨g, 0, none⟩), .bool false, .bool false, .pointer (some ⟨g, 0, none⟩), .int .i64 1, .pointer (some ⟨g, 0, none⟩), .pointer (some ⟨g, 3, none⟩), .pointer (some ⟨g, 4, none⟩), .pointer ra, .int .i64 1, .func (.yield lx) #[] #[], .bool true, .bool true, .func (.yield lx) #[] #[], .pointer (some ⟨g, 0, none⟩), .pointer (some ⟨g, 0, none⟩), .pointer (some ⟨g, 0, none⟩), .int .u64 k, .pointer (some ⟨g, 0, none⟩), .pointer (some ⟨g, 0, none⟩), .pointer (some ⟨g, 1, none⟩), .int .i64 v, .bool false, y 23, y 24, undef, undef, undef, undef, undef, undef, undef, undef, undef, undef, undef, undef], defers := [] }) (fun W => W3 = W) (fun i u W => match i with
                  | 23 => u = .bool false
                  | 24 => u = .bool false
                  | _ => True) (fun A B => SameW A B) ?hC ?hV (fun _ => undef) ?hw ?h0 ?hop ?hend
                case hC => exact fun A B h e => h.trans e.eq
                case hV => exact fun i u A B h e => by obtain ⟨rfl⟩ := e; exact h
                case hw => exact rfl
                case h0 =>
                  intro i hi
                  have hi' : i = 0 ∨ i = 1 ∨ i = 2 ∨ i = 3 ∨ i = 4 ∨ i = 5 ∨ i = 6 ∨ i = 7 ∨ i = 8 ∨ i = 9 ∨ i = 10 ∨ i = 11 ∨ i = 12 ∨ i = 13 ∨ i = 14 ∨ i = 15 ∨ i = 16 ∨ i = 17 ∨ i = 18 ∨ i = 19 ∨ i = 20 ∨ i = 21 ∨ i = 22 := by omega
                  rcases hi' with rfl | rfl | rfl | rfl | rfl | rfl | rfl | rfl | rfl | rfl | rfl | rfl | rfl | rfl | rfl | rfl | rfl | rfl | rfl | rfl | rfl | rfl | rfl
                  all_goals exact trivial
                case hop =>
                  simp only [AllDoIn, List.take_succ_cons, List.take_zero, List.drop_succ_cons, List.drop_zero, Nat.reduceAdd]
                  refine ⟨?o23, ?o24, trivial⟩
                  all_goals rintro y W rfl hd Q hQ
                  all_goals simp [Region.binds] at hd
                  case o23 =>
                    rw [if_pos (show Region.wanted _ _ = true from rfl)]
                    clear hd
                    gi_wp2
                    first | exact ⟨_, rfl, ⟨rfl⟩, rfl⟩ | (refine ⟨.bool false, ?_, ⟨rfl⟩, rfl⟩; simp [updV]) | (refine ⟨?_, ⟨rfl⟩⟩; simp [updV])
                  case o24 =>
                    rw [if_pos (show Region.wanted _ _ = true from rfl)]
                    have e23 : y 23 = .bool false := by simp_all
                    rw [e23]
                    clear hd
                    gi_wp2
                    first | exact ⟨_, rfl, ⟨rfl⟩, rfl⟩ | (refine ⟨.bool false, ?_, ⟨rfl⟩, rfl⟩; simp [updV, e23]) | (refine ⟨?_, ⟨rfl⟩⟩; simp [updV, e23])
                case hend =>
                  rintro y W rfl hv
                  have e23 : y 23 = .bool false := hv 23 (by decide)
                  have e24 : y 24 = .bool false := hv 24 (by decide)
                  clear hv
                  rw [e23, e24]
                  clear e23 e24
                  refine Left.stageL (fun _ => trivial) 25 35 (by decide) (by decide) (by decide +kernel) (by decide +kernel) (fun y => { tmps := #[.pointer (some ⟨g, 0, none⟩), .int .i64 1, .func (.yield lx) #[] #[], undef, undef, undef, .bool false, .pointer (some ⟨g, 0, none⟩), .bool false, .bool false, .pointer (some ⟨g, 0, none⟩), .int .i64 1, .pointer (some ⟨g, 0, none⟩), .pointer (some ⟨g, 3, none⟩), .pointer (some ⟨g, 4, none⟩), .pointer ra, .int .i64 1, .func (.yield lx) #[] #[], .bool true, .bool true, .func (.yield lx) #[] #[], .pointer (some ⟨g, 0, none⟩), .pointer (some ⟨g, 0, none⟩), .pointer (some ⟨g, 0, none⟩), .int .u64 k, .pointer (some ⟨g, 0, none⟩), .pointer (some ⟨g, 0, none⟩), .pointer (some ⟨g, 1, none⟩), .int .i64 v, .bool false, .bool false, .bool false, y 25, y 26, y 27, y 28, y 29, y 30, y 31, y 32, y 33, y 34, undef, undef], defers := [] }) (fun W => W3 = W) (fun i u W => match i with
                    | 25 => u = undef
                    | 26 => u = undef
                    | 27 => u = undef
                    | 28 => u = undef
                    | 29 => u = undef
                    | 30 => u = undef
                    | 31 => u = undef
                    | 32 => u = undef
                    | 33 => u = undef
                    | 34 => u = undef
                    | _ => True) (fun A B => SameW A B) ?hC ?hV (fun _ => undef) ?hw ?h0 ?hop ?hend
                  case hC => exact fun A B h e => h.trans e.eq
                  case hV => exact fun i u A B h e => by obtain ⟨rfl⟩ := e; exact h
                  case hw => exact rfl
                  case h0 =>
                    intro i hi
                    have hi' : i = 0 ∨ i = 1 ∨ i = 2 ∨ i = 3 ∨ i = 4 ∨ i = 5 ∨ i = 6 ∨ i = 7 ∨ i = 8 ∨ i = 9 ∨ i = 10 ∨ i = 11 ∨ i = 12 ∨ i = 13 ∨ i = 14 ∨ i = 15 ∨ i = 16 ∨ i = 17 ∨ i = 18 ∨ i = 19 ∨ i = 20 ∨ i = 21 ∨ i = 22 ∨ i = 23 ∨ i = 24 := by omega
                    rcases hi' with rfl | rfl | rfl | rfl | rfl | rfl | rfl | rfl | rfl | rfl | rfl | rfl | rfl | rfl | rfl | rfl | rfl | rfl | rfl | rfl | rfl | rfl | rfl | rfl | rfl
                    all_goals exact trivial
                  case hop =>
                    simp only [AllDoIn, List.take_succ_cons, List.take_zero, List.drop_succ_cons, List.drop_zero, Nat.reduceAdd]
                    refine ⟨?o25, ?o26, ?o27, ?o28, ?o29, ?o30, ?o31, ?o32, ?o33, ?o34, trivial⟩
                    all_goals rintro y W rfl hd Q hQ
                    all_goals simp [Region.binds] at hd
                    case o25 =>
                      rw [if_neg (not_wanted (b := Region.wanted _ _) rfl)]
                      exact hQ _ _ ⟨undef, rfl, ⟨rfl⟩, rfl⟩
                    case o26 =>
                      rw [if_neg (not_wanted (b := Region.wanted _ _) rfl)]
                      exact hQ _ _ ⟨undef, rfl, ⟨rfl⟩, rfl⟩
                    case o27 =>
                      rw [if_neg (not_wanted (b := Region.wanted _ _) rfl)]
                      exact hQ _ _ ⟨undef, rfl, ⟨rfl⟩, rfl⟩
                    case o28 =>
                      rw [if_neg (not_wanted (b := Region.wanted _ _) rfl)]
                      exact hQ _ _ ⟨undef, rfl, ⟨rfl⟩, rfl⟩
                    case o29 =>
                      rw [if_neg (not_wanted (b := Region.wanted _ _) rfl)]
                      exact hQ _ _ ⟨undef, rfl, ⟨rfl⟩, rfl⟩
                    case o30 =>
                      rw [if_neg (not_wanted (b := Region.wanted _ _) rfl)]
                      exact hQ _ _ ⟨undef, rfl, ⟨rfl⟩, rfl⟩
                    case o31 =>
                      rw [if_neg (not_wanted (b := Region.wanted _ _) rfl)]
                      exact hQ _ _ ⟨undef, rfl, ⟨rfl⟩, rfl⟩
                    case o32 =>
                      rw [if_neg (not_wanted (b := Region.wanted _ _) rfl)]
                      exact hQ _ _ ⟨undef, rfl, ⟨rfl⟩, rfl⟩
                    case o33 =>
                      rw [if_neg (not_wanted (b := Region.wanted _ _) rfl)]
                      exact hQ _ _ ⟨undef, rfl, ⟨rfl⟩, rfl⟩
                    case o34 =>
                      rw [if_neg (not_wanted (b := Region.wanted _ _) rfl)]
                      exact hQ _ _ ⟨undef, rfl, ⟨rfl⟩, rfl⟩
                  case hend =>
                    rintro y W rfl hv
                    have e25 : y 25 = undef := hv 25 (by decide)
                    have e26 : y 26 = undef := hv 26 (by decide)
                    have e27 : y 27 = undef := hv 27 (by decide)
                    have e28 : y 28 = undef := hv 28 (by decide)
                    have e29 : y 29 = undef := hv 29 (by decide)
                    have e30 : y 30 = undef := hv 30 (by decide)
                    have e31 : y 31 = undef := hv 31 (by decide)
                    have e32 : y 32 = undef := hv 32 (by decide)
                    have e33 : y 33 = undef := hv 33 (by decide)
                    have e34 : y 34 = undef := hv 34 (by decide)
                    clear hv
                    rw [e25, e26, e27, e28, e29, e30, e31, e32, e33, e34]
                    clear e25 e26 e27 e28 e29 e30 e31 e32 e33 e34
                    refine Left.stageL (fun _ => trivial) 35 38 (by decide) (by decide) (by decide +kernel) (by decide +kernel) (fun y => { tmps := #[.pointer (some ⟨g, 0, none⟩), .int .i64 1, .func (.yield lx) #[] #[], undef, undef, undef, y 37, .pointer (some ⟨g, 0, none⟩), .bool false, .bool false, .pointer (some ⟨g, 0, none⟩), .int .i64 1, .pointer (some ⟨g, 0, none⟩), .pointer (some ⟨g, 3, none⟩), .pointer (some ⟨g, 4, none⟩), .pointer ra, .int .i64 1, .func (.yield lx) #[] #[], .bool true, .bool true, .func (.yield lx) #[] #[], .pointer (some ⟨g, 0, none⟩), .pointer (some ⟨g, 0, none⟩), .pointer (some ⟨g, 0, none⟩), .int .u64 k, .pointer (some ⟨g, 0, none⟩), .pointer (some ⟨g, 0, none⟩), .pointer (some ⟨g, 1, none⟩), .int .i64 v, .bool false, .bool false, .bool false, undef, undef, undef, undef, undef, undef, undef, undef, undef, undef, y 35, y 36], defers := [] }) (fun W => W3 = W) (fun i u W => match i with
                      | 35 => u = .bool false
                      | 36 => u = .bool false
                      | 37 => u = .bool false
                      | _ => True) (fun A B => SameW A B) ?hC ?hV (fun i => if i = 37 then .bool false else undef) ?hw ?h0 ?hop ?hend
                    case hC => exact fun A B h e => h.trans e.eq
                    case hV => exact fun i u A B h e => by obtain ⟨rfl⟩ := e; exact h
                    case hw => exact rfl
                    case h0 =>
                      intro i hi
                      have hi' : i = 0 ∨ i = 1 ∨ i = 2 ∨ i = 3 ∨ i = 4 ∨ i = 5 ∨ i = 6 ∨ i = 7 ∨ i = 8 ∨ i = 9 ∨ i = 10 ∨ i = 11 ∨ i = 12 ∨ i = 13 ∨ i = 14 ∨ i = 15 ∨ i = 16 ∨ i = 17 ∨ i = 18 ∨ i = 19 ∨ i = 20 ∨ i = 21 ∨ i = 22 ∨ i = 23 ∨ i = 24 ∨ i = 25 ∨ i = 26 ∨ i = 27 ∨ i = 28 ∨ i = 29 ∨ i = 30 ∨ i = 31 ∨ i = 32 ∨ i = 33 ∨ i = 34 := by omega
                      rcases hi' with rfl | rfl | rfl | rfl | rfl | rfl | rfl | rfl | rfl | rfl | rfl | rfl | rfl | rfl | rfl | rfl | rfl | rfl | rfl | rfl | rfl | rfl | rfl | rfl | rfl | rfl | rfl | rfl | rfl | rfl | rfl | rfl | rfl | rfl | rfl
                      all_goals exact trivial
                    case hop =>
                      simp only [AllDoIn, List.take_succ_cons, List.take_zero, List.drop_succ_cons, List.drop_zero, Nat.reduceAdd]
                      refine ⟨?o35, ?o36, ?o37, trivial⟩
                      all_goals rintro y W rfl hd Q hQ
                      all_goals simp [Region.binds] at hd
                      case o35 =>
                        rw [if_pos (show Region.wanted _ _ = true from rfl)]
                        clear hd
                        gi_wp2
                        first | exact ⟨_, rfl, ⟨rfl⟩, rfl⟩ | (refine ⟨.bool false, ?_, ⟨rfl⟩, rfl⟩; simp [updV]) | (refine ⟨?_, ⟨rfl⟩⟩; simp [updV])
                      case o36 =>
                        rw [if_pos (show Region.wanted _ _ = true from rfl)]
                        have e35 : y 35 = .bool false := by simp_all
                        rw [e35]
                        clear hd
                        gi_wp2
                        first | exact ⟨_, rfl, ⟨rfl⟩, rfl⟩ | (refine ⟨.bool false, ?_, ⟨rfl⟩, rfl⟩; simp [updV, e35]) | (refine ⟨?_, ⟨rfl⟩⟩; simp [updV, e35])
                      case o37 =>
                        rw [if_pos (show Region.wanted _ _ = true from rfl)]
                        have e36 : y 36 = .bool false := by simp_all
                        rw [e36]
                        clear hd
                        gi_wp2
                        first | exact ⟨_, rfl, ⟨rfl⟩, rfl⟩ | (refine ⟨.bool false, ?_, ⟨rfl⟩, rfl⟩; simp [updV, e36]) | (refine ⟨?_, ⟨rfl⟩⟩; simp [updV, e36])
                    case hend =>
                      rintro y W rfl hv
                      have e35 : y 35 = .bool false := hv 35 (by decide)
                      have e36 : y 36 = .bool false := hv 36 (by decide)
                      have e37 : y 37 = .bool false := hv 37 (by decide)
                      clear hv
                      rw [e35, e36, e37]
                      clear e35 e36 e37
                      refine Left.end_ ?_
                      gi_wp2
                      refine bodyPost_ret (results_tmp rfl _ _ _) rfl ?_
                      exact .inr ⟨rfl, c, hD, hX⟩
        · gi_wp2
          refine Left.stageL (fun _ => trivial) 12 13 (by decide) (by decide) (by decide +kernel) (by decide +kernel) (fun y => { tmps := #[.pointer (some ⟨g, 0, none⟩), .int .i64 1, .func (.yield lx) #[] #[], undef, undef, undef, .bool false, .pointer (some ⟨g, 0, none⟩), .bool false, .bool false, .pointer (some ⟨g, 0, none⟩), .int .i64 1, .pointer (some ⟨g, 0, none⟩), .pointer (some ⟨g, 3, none⟩), .pointer (some ⟨g, 4, none⟩), .pointer ra, .int .i64 1, .func (.yield lx) #[] #[], .bool false, y 12, undef, undef, undef, undef, undef, undef, undef, undef, undef, undef, undef, undef, undef, undef, undef, undef, undef, undef, undef, undef, undef, undef, undef, undef], defers := [] }) (fun W => W2 = W) (fun i u W => match i with
            | 12 => u = .bool false
            | _ => True) (fun A B => SameW A B) ?hC ?hV (fun _ => undef) ?hw ?h0 ?hop ?hend
          case hC => exact fun A B h e => h.trans e.eq
          case hV => exact fun i u A B h e => by obtain ⟨rfl⟩ := e; exact h
          case hw => exact rfl
          case h0 =>
            intro i hi
            have hi' : i = 0 ∨ i = 1 ∨ i = 2 ∨ i = 3 ∨ i = 4 ∨ i = 5 ∨ i = 6 ∨ i = 7 ∨ i = 8 ∨ i = 9 ∨ i = 10 ∨ i = 11 := by omega
            rcases hi' with rfl | rfl | rfl | rfl | rfl | rfl | rfl | rfl | rfl | rfl | rfl | rfl
            all_goals exact trivial
          case hop =>
            simp only [AllDoIn, List.take_succ_cons, List.take_zero, List.drop_succ_cons, List.drop_zero, Nat.reduceAdd]
            refine ⟨?o12, trivial⟩
            all_goals rintro y W rfl hd Q hQ
            all_goals simp [Region.binds] at hd
            case o12 =>
              rw [if_pos (show Region.wanted _ _ = true from rfl)]
              clear hd
              gi_wp2
              first | exact ⟨_, rfl, ⟨rfl⟩, rfl⟩ | (refine ⟨.bool false, ?_, ⟨rfl⟩, rfl⟩; simp [updV]) | (refine ⟨?_, ⟨rfl⟩⟩; simp [updV])
          case hend =>
            rintro y W rfl hv
            have e12 : y 12 = .bool false := hv 12 (by decide)
            clear hv
            rw [e12]
            clear e12
            refine Left.stageL (fun _ => trivial) 13 23 (by decide) (by decide) (by decide +kernel) (by decide +kernel) (fun y => { tmps := #[.pointer (some ⟨g, 0, none⟩), .int .i64 1, .func (.yield lx) #[] #[], undef, undef, undef, .bool false, .pointer (some ⟨g, 0, none⟩), .bool false, .bool false, .pointer (some ⟨g, 0, none⟩), .int .i64 1, .pointer (some ⟨g, 0, none⟩), .pointer (some ⟨g, 3, none⟩), .pointer (some ⟨g, 4, none⟩), .pointer ra, .int .i64 1, .func (.yield lx) #[] #[], .bool false, .bool false, y 13, y 14, y 15, y 16, y 17, y 18, y 19, y 20, y 21, y 22, undef, undef, undef, undef, undef, undef, undef, undef, undef, undef, undef, undef, undef, undef], defers := [] }) (fun W => W2 = W) (fun i u W => match i with
              | 13 => u = undef
              | 14 => u = undef
              | 15 => u = undef
              | 16 => u = undef
              | 17 => u = undef
              | 18 => u = undef
              | 19 => u = undef
              | 20 => u = undef
              | 21 => u = undef
              | 22 => u = undef
              | _ => True) (fun A B => SameW A B) ?hC ?hV (fun _ => undef) ?hw ?h0 ?hop ?hend
            case hC => exact fun A B h e => h.trans e.eq
            case hV => exact fun i u A B h e => by obtain ⟨rfl⟩ := e; exact h
            case hw => exact rfl
            case h0 =>
              intro i hi
              have hi' : i = 0 ∨ i = 1 ∨ i = 2 ∨ i = 3 ∨ i = 4 ∨ i = 5 ∨ i = 6 ∨ i = 7 ∨ i = 8 ∨ i = 9 ∨ i = 10 ∨ i = 11 ∨ i = 12 := by omega
              rcases hi' with rfl | rfl | rfl | rfl | rfl | rfl | rfl | rfl | rfl | rfl | rfl | rfl | rfl
              all_goals exact trivial
            case hop =>
              simp only [AllDoIn, List.take_succ_cons, List.take_zero, List.drop_succ_cons, List.drop_zero, Nat.reduceAdd]
              refine ⟨?o13, ?o14, ?o15, ?o16, ?o17, ?o18, ?o19, ?o20, ?o21, ?o22, trivial⟩
              all_goals rintro y W rfl hd Q hQ
              all_goals simp [Region.binds] at hd
              case o13 =>
                rw [if_neg (not_wanted (b := Region.wanted _ _) rfl)]
                exact hQ _ _ ⟨undef, rfl, ⟨rfl⟩, rfl⟩
              case o14 =>
                rw [if_neg (not_wanted (b := Region.wanted _ _) rfl)]
                exact hQ _ _ ⟨undef, rfl, ⟨rfl⟩, rfl⟩
              case o15 =>
                rw [if_neg (not_wanted (b := Region.wanted _ _) rfl)]
                exact hQ _ _ ⟨undef, rfl, ⟨rfl⟩, rfl⟩
              case o16 =>
                rw [if_neg (not_wanted (b := Region.wanted _ _) rfl)]
                exact hQ _ _ ⟨undef, rfl, ⟨rfl⟩, rfl⟩
              case o17 =>
                rw [if_neg (not_wanted (b := Region.wanted _ _) rfl)]
                exact hQ _ _ ⟨undef, rfl, ⟨rfl⟩, rfl⟩
              case o18 =>
                rw [if_neg (not_wanted (b := Region.wanted _ _) rfl)]
                exact hQ _ _ ⟨undef, rfl, ⟨rfl⟩, rfl⟩
              case o19 =>
                rw [if_neg (not_wanted (b := Region.wanted _ _) rfl)]
                exact hQ _ _ ⟨undef, rfl, ⟨rfl⟩, rfl⟩
              case o20 =>
                rw [if_neg (not_wanted (b := Region.wanted _ _) rfl)]
                exact hQ _ _ ⟨undef, rfl, ⟨rfl⟩, rfl⟩
              case o21 =>
                rw [if_neg (not_wanted (b := Region.wanted _ _) rfl)]
                exact hQ _ _ ⟨undef, rfl, ⟨rfl⟩, rfl⟩
              case o22 =>
                rw [if_neg (not_wanted (b := Region.wanted _ _) rfl)]
                exact hQ _ _ ⟨undef, rfl, ⟨rfl⟩, rfl⟩
            case hend =>
              rintro y W rfl hv
              have e13 : y 13 = undef := hv 13 (by decide)
              have e14 : y 14 = undef := hv 14 (by decide)
              have e15 : y 15 = undef := hv 15 (by decide)
              have e16 : y 16 = undef := hv 16 (by decide)
              have e17 : y 17 = undef := hv 17 (by decide)
              have e18 : y 18 = undef := hv 18 (by decide)
              have e19 : y 19 = undef := hv 19 (by decide)
              have e20 : y 20 = undef := hv 20 (by decide)
              have e21 : y 21 = undef := hv 21 (by decide)
              have e22 : y 22 = undef := hv 22 (by decide)
              clear hv
              rw [e13, e14, e15, e16, e17, e18, e19, e20, e21, e22]
              clear e13 e14 e15 e16 e17 e18 e19 e20 e21 e22
              refine Left.stageL (fun _ => trivial) 23 25 (by decide) (by decide) (by decide +kernel) (by decide +kernel) (fun y => { tmps := #[.pointer (some ⟨g, 0, none⟩), .int .i64 1, .func (.yield lx) #[] #[], undef, undef, undef, .bool false, .pointer (some ⟨g, 0, none⟩), .bool false, .bool false, .pointer (some ⟨g, 0, none⟩), .int .i64 1, .pointer (some ⟨g, 0, none⟩), .pointer (some ⟨g, 3, none⟩), .pointer (some ⟨g, 4, none⟩), .pointer ra, .int .i64 1, .func (.yield lx) #[] #[], .bool false, .bool false, undef, undef, undef, undef, undef, undef, undef, undef, undef, undef, y 23, y 24, undef, undef, undef, undef, undef, undef, undef, undef, undef, undef, undef, undef], defers := [] }) (fun W => W2 = W) (fun i u W => match i with
                | 23 => u = .bool false
                | 24 => u = .bool false
                | _ => True) (fun A B => SameW A B) ?hC ?hV (fun _ => undef) ?hw ?h0 ?hop ?hend
              case hC => exact fun A B h e => h.trans e.eq
              case hV => exact fun i u A B h e => by obtain ⟨rfl⟩ := e; exact h
              case hw => exact rfl
              case h0 =>
                intro i hi
                have hi' : i = 0 ∨ i = 1 ∨ i = 2 ∨ i = 3 ∨ i = 4 ∨ i = 5 ∨ i = 6 ∨ i = 7 ∨ i = 8 ∨ i = 9 ∨ i = 10 ∨ i = 11 ∨ i = 12 ∨ i = 13 ∨ i = 14 ∨ i = 15 ∨ i = 16 ∨ i = 17 ∨ i = 18 ∨ i = 19 ∨ i = 20 ∨ i = 21 ∨ i = 22 := by omega
                rcases hi' with rfl | rfl | rfl | rfl | rfl | rfl | rfl | rfl | rfl | rfl | rfl | rfl | rfl | rfl | rfl | rfl | rfl | rfl | rfl | rfl | rfl | rfl | rfl
                all_goals exact trivial
              case hop =>
                simp only [AllDoIn, List.take_succ_cons, List.take_zero, List.drop_succ_cons, List.drop_zero, Nat.reduceAdd]
                refine ⟨?o23, ?o24, trivial⟩
                all_goals rintro y W rfl hd Q hQ
                all_goals simp [Region.binds] at hd
                case o23 =>
                  rw [if_pos (show Region.wanted _ _ = true from rfl)]
                  clear hd
                  gi_wp2
                  first | exact ⟨_, rfl, ⟨rfl⟩, rfl⟩ | (refine ⟨.bool false, ?_, ⟨rfl⟩, rfl⟩; simp [updV]) | (refine ⟨?_, ⟨rfl⟩⟩; simp [updV])
                case o24 =>
                  rw [if_pos (show Region.wanted _ _ = true from rfl)]
                  have e23 : y 23 = .bool false := by simp_all
                  rw [e23]
                  clear hd
                  gi_wp2
                  first | exact ⟨_, rfl, ⟨rfl⟩, rfl⟩ | (refine ⟨.bool false, ?_, ⟨rfl⟩, rfl⟩; simp [updV, e23]) | (refine ⟨?_, ⟨rfl⟩⟩; simp [updV, e23])
              case hend =>
                rintro y W rfl hv
                have e23 : y 23 = .bool false := hv 23 (by decide)
                have e24 : y 24 = .bool false := hv 24 (by decide)
                clear hv
                rw [e23, e24]
                clear e23 e24
                refine Left.stageL (fun _ => trivial) 25 35 (by decide) (by decide) (by decide +kernel) (by decide +kernel) (fun y => { tmps := #[.pointer (some ⟨g, 0, none⟩), .int .i64 1, .func (.yield lx) #[] #[], undef, undef, undef, .bool false, .pointer (some ⟨g, 0, none⟩), .bool false, .bool false, .pointer (some ⟨g, 0, none⟩), .int .i64 1, .pointer (some ⟨g, 0, none⟩), .pointer (some ⟨g, 3, none⟩), .pointer (some ⟨g, 4, none⟩), .pointer ra, .int .i64 1, .func (.yield lx) #[] #[], .bool false, .bool false, undef, undef, undef, undef, undef, undef, undef, undef, undef, undef, .bool false, .bool false, y 25, y 26, y 27, y 28, y 29, y 30, y 31, y 32, y 33, y 34, undef, undef], defers := [] }) (fun W => W2 = W) (fun i u W => match i with
                  | 25 => u = undef
                  | 26 => u = undef
                  | 27 => u = undef
                  | 28 => u = undef
                  | 29 => u = undef
                  | 30 => u = undef
                  | 31 => u = undef
                  | 32 => u = undef
                  | 33 => u = undef
                  | 34 => u = undef
                  | _ => True) (fun A B => SameW A B) ?hC ?hV (fun _ => undef) ?hw ?h0 ?hop ?hend
                case hC => exact fun A B h e => h.trans e.eq
                case hV => exact fun i u A B h e => by obtain ⟨rfl⟩ := e; exact h
                case hw => exact rfl
                case h0 =>
                  intro i hi
                  have hi' : i = 0 ∨ i = 1 ∨ i = 2 ∨ i = 3 ∨ i = 4 ∨ i = 5 ∨ i = 6 ∨ i = 7 ∨ i = 8 ∨ i = 9 ∨ i = 10 ∨ i = 11 ∨ i = 12 ∨ i = 13 ∨ i = 14 ∨ i = 15 ∨ i = 16 ∨ i = 17 ∨ i = 18 ∨ i = 19 ∨ i = 20 ∨ i = 21 ∨ i = 22 ∨ i = 23 ∨ i = 24 := by omega
                  rcases hi' with rfl | rfl | rfl | rfl | rfl | rfl | rfl | rfl | rfl | rfl | rfl | rfl | rfl | rfl | rfl | rfl | rfl | rfl | rfl | rfl | rfl | rfl | rfl | rfl | rfl
                  all_goals exact trivial
                case hop =>
                  simp only [AllDoIn, List.take_succ_cons, List.take_zero, List.drop_succ_cons, List.drop_zero, Nat.reduceAdd]
                  refine ⟨?o25, ?o26, ?o27, ?o28, ?o29, ?o30, ?o31, ?o32, ?o33, ?o34, trivial⟩
                  all_goals rintro y W rfl hd Q hQ
                  all_goals simp [Region.binds] at hd
                  case o25 =>
                    rw [if_neg (not_wanted (b := Region.wanted _ _) rfl)]
                    exact hQ _ _ ⟨undef, rfl, ⟨rfl⟩, rfl⟩
                  case o26 =>
                    rw [if_neg (not_wanted (b := Region.wanted _ _) rfl)]
                    exact hQ _ _ ⟨undef, rfl, ⟨rfl⟩, rfl⟩
                  case o27 =>
                    rw [if_neg (not_wanted (b := Region.wanted _ _) rfl)]
                    exact hQ _ _ ⟨undef, rfl, ⟨rfl⟩, rfl⟩
                  case o28 =>
                    rw [if_neg (not_wanted (b := Region.wanted _ _) rfl)]
                    exact hQ _ _ ⟨undef, rfl, ⟨rfl⟩, rfl⟩
                  case o29 =>
                    rw [if_neg (not_wanted (b := Region.wanted _ _) rfl)]
                    exact hQ _ _ ⟨undef, rfl, ⟨rfl⟩, rfl⟩
                  case o30 =>
                    rw [if_neg (not_wanted (b := Region.wanted _ _) rfl)]
                    exact hQ _ _ ⟨undef, rfl, ⟨rfl⟩, rfl⟩
                  case o31 =>
                    rw [if_neg (not_wanted (b := Region.wanted _ _) rfl)]
                    exact hQ _ _ ⟨undef, rfl, ⟨rfl⟩, rfl⟩
                  case o32 =>
                    rw [if_neg (not_wanted (b := Region.wanted _ _) rfl)]
                    exact hQ _ _ ⟨undef, rfl, ⟨rfl⟩, rfl⟩
                  case o33 =>
                    rw [if_neg (not_wanted (b := Region.wanted _ _) rfl)]
                    exact hQ _ _ ⟨undef, rfl, ⟨rfl⟩, rfl⟩
                  case o34 =>
                    rw [if_neg (not_wanted (b := Region.wanted _ _) rfl)]
                    exact hQ _ _ ⟨undef, rfl, ⟨rfl⟩, rfl⟩
                case hend =>
                  rintro y W rfl hv
                  have e25 : y 25 = undef := hv 25 (by decide)
                  have e26 : y 26 = undef := hv 26 (by decide)
                  have e27 : y 27 = undef := hv 27 (by decide)
                  have e28 : y 28 = undef := hv 28 (by decide)
                  have e29 : y 29 = undef := hv 29 (by decide)
                  have e30 : y 30 = undef := hv 30 (by decide)
                  have e31 : y 31 = undef := hv 31 (by decide)
                  have e32 : y 32 = undef := hv 32 (by decide)
                  have e33 : y 33 = undef := hv 33 (by decide)
                  have e34 : y 34 = undef := hv 34 (by decide)
                  clear hv
                  rw [e25, e26, e27, e28, e29, e30, e31, e32, e33, e34]
                  clear e25 e26 e27 e28 e29 e30 e31 e32 e33 e34
                  refine Left.stageL (fun _ => trivial) 35 38 (by decide) (by decide) (by decide +kernel) (by decide +kernel) (fun y => { tmps := #[.pointer (some ⟨g, 0, none⟩), .int .i64 1, .func (.yield lx) #[] #[], undef, undef, undef, y 37, .pointer (some ⟨g, 0, none⟩), .bool false, .bool false, .pointer (some ⟨g, 0, none⟩), .int .i64 1, .pointer (some ⟨g, 0, none⟩), .pointer (some ⟨g, 3, none⟩), .pointer (some ⟨g, 4, none⟩), .pointer ra, .int .i64 1, .func (.yield lx) #[] #[], .bool false, .bool false, undef, undef, undef, undef, undef, undef, undef, undef, undef, undef, .bool false, .bool false, undef, undef, undef, undef, undef, undef, undef, undef, undef, undef, y 35, y 36], defers := [] }) (fun W => W2 = W) (fun i u W => match i with
                    | 35 => u = .bool false
                    | 36 => u = .bool false
                    | 37 => u = .bool false
                    | _ => True) (fun A B => SameW A B) ?hC ?hV (fun i => if i = 37 then .bool false else undef) ?hw ?h0 ?hop ?hend
                  case hC => exact fun A B h e => h.trans e.eq
                  case hV => exact fun i u A B h e => by obtain ⟨rfl⟩ := e; exact h
                  case hw => exact rfl
                  case h0 =>
                    intro i hi
                    have hi' : i = 0 ∨ i = 1 ∨ i = 2 ∨ i = 3 ∨ i = 4 ∨ i = 5 ∨ i = 6 ∨ i = 7 ∨ i = 8 ∨ i = 9 ∨ i = 10 ∨ i = 11 ∨ i = 12 ∨ i = 13 ∨ i = 14 ∨ i = 15 ∨ i = 16 ∨ i = 17 ∨ i = 18 ∨ i = 19 ∨ i = 20 ∨ i = 21 ∨ i = 22 ∨ i = 23 ∨ i = 24 ∨ i = 25 ∨ i = 26 ∨ i = 27 ∨ i = 28 ∨ i = 29 ∨ i = 30 ∨ i = 31 ∨ i = 32 ∨ i = 33 ∨ i = 34 := by omega
                    rcases hi' with rfl | rfl | rfl | rfl | rfl | rfl | rfl | rfl | rfl | rfl | rfl | rfl | rfl | rfl | rfl | rfl | rfl | rfl | rfl | rfl | rfl | rfl | rfl | rfl | rfl | rfl | rfl | rfl | rfl | rfl | rfl | rfl | rfl | rfl | rfl
                    all_goals exact trivial
                  case hop =>
                    simp only [AllDoIn, List.take_succ_cons, List.take_zero, List.drop_succ_cons, List.drop_zero, Nat.reduceAdd]
                    refine ⟨?o35, ?o36, ?o37, trivial⟩
                    all_goals rintro y W rfl hd Q hQ
                    all_goals simp [Region.binds] at hd
                    case o35 =>
                      rw [if_pos (show Region.wanted _ _ = true from rfl)]
                      clear hd
                      gi_wp2
                      first | exact ⟨_, rfl, ⟨rfl⟩, rfl⟩ | (refine ⟨.bool false, ?_, ⟨rfl⟩, rfl⟩; simp [updV]) | (refine ⟨?_, ⟨rfl⟩⟩; simp [updV])
                    case o36 =>
                      rw [if_pos (show Region.wanted _ _ = true from rfl)]
                      have e35 : y 35 = .bool false := by simp_all
                      rw [e35]
                      clear hd
                      gi_wp2
                      first | exact ⟨_, rfl, ⟨rfl⟩, rfl⟩ | (refine ⟨.bool false, ?_, ⟨rfl⟩, rfl⟩; simp [updV, e35]) | (refine ⟨?_, ⟨rfl⟩⟩; simp [updV, e35])
                    case o37 =>
                      rw [if_pos (show Region.wanted _ _ = true from rfl)]
                      have e36 : y 36 = .bool false := by simp_all
                      rw [e36]
                      clear hd
                      gi_wp2
                      first | exact ⟨_, rfl, ⟨rfl⟩, rfl⟩ | (refine ⟨.bool false, ?_, ⟨rfl⟩, rfl⟩; simp [updV, e36]) | (refine ⟨?_, ⟨rfl⟩⟩; simp [updV, e36])
                  case hend =>
                    rintro y W rfl hv
                    have e35 : y 35 = .bool false := hv 35 (by decide)
                    have e36 : y 36 = .bool false := hv 36 (by decide)
                    have e37 : y 37 = .bool false := hv 37 (by decide)
                    clear hv
                    rw [e35, e36, e37]
                    clear e35 e36 e37
                    refine Left.end_ ?_
                    gi_wp2
                    refine bodyPost_ret (results_tmp rfl _ _ _) rfl ?_
                    exact .inr ⟨rfl, c, hD, hX⟩
end Go.Proofs.YtfgppkmhjjnnnaaDoor
