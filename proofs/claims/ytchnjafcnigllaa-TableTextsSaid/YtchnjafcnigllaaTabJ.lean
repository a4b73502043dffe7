/- A table's From, as a promise for whatever the caller's invariant is; what pairs makes of it. -/
import Derived.Test.YtchnjafcnigllaaTabP
namespace Go.Proofs.Ytchnjafcnigllaa
open Go.RowKit
set_option linter.unusedVariables false
attribute [local go_sem] Oper.semAt_some

theorem fromOfN (b : Nat) (k : Int) (w : World) :
    Calls Try.prog 17 #[.pointer (some ⟨b, 0, none⟩), .int .i64 k] w fun e w' => e = .returned (.func (.func 48) #[] #[.pointer (some ⟨w.heap.size, 0, none⟩), .pointer (some ⟨w.heap.size + 1, 0, none⟩)]) ∧ w' = (w.alloc (.cells #[.pointer (some ⟨b, 0, none⟩)] 24)).alloc (.cells #[.int .i64 k] 2) := by
  go_enter Try.func17, Try.ntmps17
  go_wp2
  go_ret
  exact ⟨rfl, rfl⟩
set_option maxRecDepth 100000 in
set_option maxHeartbeats 8000000 in
theorem from1N {σ : Type} {W0 : World} {rest : σ → KV} {J : σ → World → Prop} {Jm : σ → Int × Int → World → Prop} {Jx : Code → World → Prop} {Af : σ → σ → Prop} {B Bt Bk b : Nat} {k : Int} {a : Option Addr} {t : TrN} {s0 : σ} (hC : EachC W0 rest J Jm Af)
    (hbox : ∀ W, J s0 W → W.cell? ⟨Bt, 0, none⟩ = some (.pointer (some ⟨b, 0, none⟩)) ∧ W.cell? ⟨Bk, 0, none⟩ = some (.int .i64 k) ∧ W.cell? ⟨b, 0, none⟩ = some (.pointer a)) (ht : AtN W0 t (.pointer a)) (hri : Tr.Rising ltN t.list) (hr : rest s0 = fromL k t) :
    SeqG Fence.wide 2 Try.prog 48 #[.pointer (some ⟨Bt, 0, none⟩), .pointer (some ⟨Bk, 0, none⟩)] (fun (x : Int × Int) => #[.int .i64 x.1, .int .i64 x.2]) B J Jm Jx Af (fun s _ => rest s = []) s0 := by
  intro l Rd Dn W hRd hDn hRz hDz hR0 hJ0 hY
  have HJD := hC.drew s0 W hJ0
  obtain ⟨c0, c1, c2⟩ := hbox W.drew HJD
  have HE := Lib.hid (fromN k (lx := l) (Dn := Dn) (Jx := Jx) hC hRd hY t _ [] s0 W.drew hri ht HJD (hRd W W.drew ⟨rfl, rfl⟩ hR0) (by rw [hr, List.append_nil]))
  clear hC hY hRd hRz hDz hR0 hJ0 hr ht hbox HJD hri
  refine callsIn_of_wp Try.func48 rfl trivial ?_ rfl
  simp only [Try.ntmps48, List.size_toArray, List.length_cons, List.length_nil, Nat.reduceAdd, Nat.reduceSub, Array.replicate_succ, Array.replicate_zero, List.push_toArray, List.append_toArray, List.nil_append, List.cons_append]
  gi_wp2_with fail
  refine region_left (by kernel_rfl) ?_
  obtain ⟨W1, hW1⟩ : ∃ W1, W.drew = W1 := ⟨_, rfl⟩
  rw [hW1] at HE c0 c1 c2 ⊢
  clear hW1
  refine Left.stageL (fun _ => trivial) 0 6 (by decide) (by decide) (by decide +kernel) (by decide +kernel) (fun y => { tmps := #[.func (.yield l) #[] #[], .pointer (some ⟨Bt, 0, none⟩), .pointer (some ⟨Bk, 0, none⟩), undef, y 0, y 1, y 2, y 3, y 4, y 5, undef], defers := [] }) (fun W => W1 = W) (fun i u W => match i with
    | 0 => u = .pointer (some ⟨b, 0, none⟩)
    | 1 => u = .pointer (some ⟨b, 0, none⟩)
    | 2 => u = .pointer (some ⟨b, 0, none⟩)
    | 3 => u = .pointer a
    | 4 => u = .int .i64 k
    | 5 => u = .func (.yield l) #[] #[]
    | _ => True) (fun A B => SameW A B) ?hC ?hV (fun _ => undef) ?hw ?h0 ?hop ?hend
  case hC => exact fun A B h e => h.trans e.eq
  case hV => exact fun i u A B h e => by obtain ⟨rfl⟩ := e; exact h
  case hw => exact rfl
  case h0 => exact fun i hi => by omega
  case hop =>
    simp only [AllDoIn, List.take_succ_cons, List.take_zero, List.drop_succ_cons, List.drop_zero, Nat.reduceAdd]
    refine ⟨?o0, ?o1, ?o2, ?o3, ?o4, ?o5, trivial⟩
    all_goals rintro y W rfl hd Q hQ
    all_goals simp [Region.binds] at hd
    case o0 =>
      rw [if_pos (show Region.wanted _ _ = true from rfl)]
      clear hd
      gi_wp2
      first | exact ⟨_, rfl, ⟨rfl⟩, rfl⟩ | (refine ⟨.pointer (some ⟨b, 0, none⟩), ?_, ⟨rfl⟩, rfl⟩; simp [updV]) | (refine ⟨?_, ⟨rfl⟩⟩; simp [updV])
    case o1 =>
      rw [if_pos (show Region.wanted _ _ = true from rfl)]
      have e0 : y 0 = .pointer (some ⟨b, 0, none⟩) := by simp_all
      rw [e0]
      clear hd
      gi_wp2
      first | exact ⟨_, rfl, ⟨rfl⟩, rfl⟩ | (refine ⟨.pointer (some ⟨b, 0, none⟩), ?_, ⟨rfl⟩, rfl⟩; simp [updV, e0]) | (refine ⟨?_, ⟨rfl⟩⟩; simp [updV, e0])
    case o2 =>
      rw [if_pos (show Region.wanted _ _ = true from rfl)]
      have e1 : y 1 = .pointer (some ⟨b, 0, none⟩) := by simp_all
      rw [e1]
      clear hd
      gi_wp2
      first | exact ⟨_, rfl, ⟨rfl⟩, rfl⟩ | (refine ⟨.pointer (some ⟨b, 0, none⟩), ?_, ⟨rfl⟩, rfl⟩; simp [updV, e1]) | (refine ⟨?_, ⟨rfl⟩⟩; simp [updV, e1])
    case o3 =>
      rw [if_pos (show Region.wanted _ _ = true from rfl)]
      have e2 : y 2 = .pointer (some ⟨b, 0, none⟩) := by simp_all
      rw [e2]
      clear hd
      gi_wp2
      first | exact ⟨_, rfl, ⟨rfl⟩, rfl⟩ | (refine ⟨.pointer a, ?_, ⟨rfl⟩, rfl⟩; simp [updV, e2]) | (refine ⟨?_, ⟨rfl⟩⟩; simp [updV, e2])
    case o4 =>
      rw [if_pos (show Region.wanted _ _ = true from rfl)]
      clear hd
      gi_wp2
      first | exact ⟨_, rfl, ⟨rfl⟩, rfl⟩ | (refine ⟨.int .i64 k, ?_, ⟨rfl⟩, rfl⟩; simp [updV]) | (refine ⟨?_, ⟨rfl⟩⟩; simp [updV])
    case o5 =>
      rw [if_pos (show Region.wanted _ _ = true from rfl)]
      clear hd
      gi_wp2
      first | exact ⟨_, rfl, ⟨rfl⟩, rfl⟩ | (refine ⟨.func (.yield l) #[] #[], ?_, ⟨rfl⟩, rfl⟩; simp [updV]) | (refine ⟨?_, ⟨rfl⟩⟩; simp [updV])
  case hend =>
    rintro y W rfl hv
    have e0 : y 0 = .pointer (some ⟨b, 0, none⟩) := hv 0 (by decide)
    have e1 : y 1 = .pointer (some ⟨b, 0, none⟩) := hv 1 (by decide)
    have e2 : y 2 = .pointer (some ⟨b, 0, none⟩) := hv 2 (by decide)
    have e3 : y 3 = .pointer a := hv 3 (by decide)
    have e4 : y 4 = .int .i64 k := hv 4 (by decide)
    have e5 : y 5 = .func (.yield l) #[] #[] := hv 5 (by decide)
    clear hv
    rw [e0, e1, e2, e3, e4, e5]
    clear e0 e1 e2 e3 e4 e5
    refine Left.one (fun _ => trivial) 6 rfl (by decide +kernel) (by decide +kernel) ?_
    intro Q hQ
    rw [if_pos (show Region.wanted _ _ = true from rfl)]
    gi_wp2_with fail
    refine ⟨trivial, ?_⟩
    refine (callsIn_wide.2 HE.out).mono ?_
    rintro e W2 (⟨rfl, hR2, s2, hr2, hJ2⟩ | ⟨rfl, c, hD, hX⟩)
    · gi_wp2
      refine Left.end_ ?_
      gi_wp2
      refine bodyPost_end (results_none rfl _ _ _) rfl ?_
      exact ⟨⟨_, rfl⟩, .inl ⟨hR2, s2, hr2, hJ2⟩⟩
    · gi_wp2
      refine Left.end_ ?_
      gi_wp2
      refine bodyPost_end (results_none rfl _ _ _) rfl ?_
      exact ⟨⟨_, rfl⟩, .inr ⟨c, hD, hX⟩⟩

/-- What pairs makes of From. -/
theorem pairsFrom (Bt Bk b : Nat) (k : Int) (l : KV) (most : Nat) (hm1 : 1 ≤ most) (hm2 : most ≤ 1048576) (w : World) (hT : TabN w b l) (hp : w.heap[Bt]? = some (.cells #[.pointer (some ⟨b, 0, none⟩)] 24 (0, 0))) (hk : w.heap[Bk]? = some (.cells #[.int .i64 k] 2 (0, 0))) :
    Calls Try.prog 13 #[.func (.func 48) #[] #[.pointer (some ⟨Bt, 0, none⟩), .pointer (some ⟨Bk, 0, none⟩)], .int .i64 most] w fun e w' => ∃ v, e = .returned v ∧ w'.ownsRow w.heap.size 41 2 v ((l.filter fun x => !(ltN x.1 k)).take most).length (flatVP ((l.filter fun x => !(ltN x.1 k)).take most)) ∧ Below w.heap.size w w' := by
  obtain ⟨t, a, h1, h2, h3⟩ := hT.at_
  exact pairs_any _ _ most hm1 hm2 (l.filter fun x => !(ltN x.1 k)) w (enters_of Try.func48 (by kernel_rfl) rfl) (fun Jx => from1N (t := t) (a := a) (pairC w most _) (fun W hW => ⟨cell_of_row W Bt 0 _ _ _ ((hW.1.bel.block Bt (Array.getElem?_eq_some_iff.1 hp).1).trans hp), cell_of_row W Bk 0 _ _ _ ((hW.1.bel.block Bk (Array.getElem?_eq_some_iff.1 hk).1).trans hk), cell_of_row W b 0 _ _ _ ((hW.1.bel.block b (Array.getElem?_eq_some_iff.1 h1).1).trans h1)⟩) h2 (by rw [h3]; exact hT.rise) (by show _ = fromL k t; rw [← h3]; rfl))
end Go.Proofs.Ytchnjafcnigllaa
