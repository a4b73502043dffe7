/- A table's nodes: the same with another value, with another side, with the node of a side at the top, even. -/
import Derived.Test.YtfgppkmhjjnnnaaDoorTabUB
import Derived.Test.YtfgppkmhjjnnnaaDoorRegionSeq
namespace Go.Proofs.YtfgppkmhjjnnnaaDoor
open Go.RowKit
set_option linter.unusedVariables false

/-- A new node. -/
theorem at_new {W : World} {l r : TrN} {la ra : Option Addr} {n : Nat} (k v : Int) (hl : AtN W l (.pointer la)) (hr : AtN W r (.pointer ra)) (hn : l.size + r.size + 1 = n) :
    AtN (W.alloc (.cells #[.int .u64 k, .int .i64 v, .int .i64 n, .pointer la, .pointer ra] 80)) (.node k v l r) (.pointer (some ⟨W.heap.size, 0, none⟩)) := by
  have hb := (Below.refl W.heap.size W).alloc (Nat.le_refl _) (.cells #[.int .u64 k, .int .i64 v, .int .i64 n, .pointer la, .pointer ra] 80)
  exact ⟨W.heap.size, _, _, rfl, by rw [hn]; exact World.alloc_heap_new W _, hl.below hb, hr.below hb⟩
theorem at_made {W W' : World} {l r : TrN} {la ra : Option Addr} {n b : Nat} (k v : Int) (hb : W'.heap[b]? = some (.cells #[.int .u64 k, .int .i64 v, .int .i64 n, .pointer la, .pointer ra] 80 (0, 0))) (hl : AtN W l (.pointer la)) (hr : AtN W r (.pointer ra)) (hn : l.size + r.size + 1 = n) (hW : Below W.heap.size W W') :
    AtN W' (.node k v l r) (.pointer (some ⟨b, 0, none⟩)) := ⟨b, _, _, rfl, by rw [hn]; exact hb, hl.below hW, hr.below hW⟩
theorem at_drew1 {W : World} {t : TrN} {p : Value} (h : AtN W t p) : AtN W.drew t p := at_drew h 1

set_option maxRecDepth 100000 in
set_option maxHeartbeats 2000000 in
theorem holdingN (k v : Int) (t : TrN) (p : Value) (w : World) (h : AtN w t p) (hn : t.isNode = true) : Calls Tryd.prog 65 #[p, .int .u64 k, .int .i64 v] w fun e w' => ∃ p', e = .returned p' ∧ AtN w' (t.holding k v) p' ∧ Below w.heap.size w w' := by
  cases t with
  | nil => cases hn
  | node a b l r =>
    obtain ⟨g, la, ra, rfl, hb, hl, hr, c0, c1, c2, c3, c4⟩ := h.cells
    have HL := Lib.hid hl
    have HR := Lib.hid hr
    obtain ⟨n, hsz⟩ : ∃ n, l.size + r.size + 1 = n := ⟨_, rfl⟩
    have HSZ := Lib.hid hsz
    rw [hsz] at c2
    clear h hb hl hr hn hsz
    go_enter Tryd.func65, Tryd.ntmps65
    go_wp2
    go_ret
    exact ⟨_, rfl, at_new k v HL.out HR.out HSZ.out, (Below.refl _ _).alloc (Nat.le_refl _) _⟩

set_option maxRecDepth 100000 in
set_option maxHeartbeats 4000000 in
theorem withN (b : Bool) (t s : TrN) (p q : Value) (w : World) (h : AtN w t p) (hs : AtN w s q) (hn : t.isNode = true) (ht : t.size ≤ 1048576) (hz : s.size ≤ 1048576) : Calls Tryd.prog 66 #[p, .int .i64 (bitI b), q] w fun e w' => ∃ p', e = .returned p' ∧ AtN w' (t.with_ b s) p' ∧ Below w.heap.size w w' := by
  cases t with
  | nil => cases hn
  | node k v l r =>
    obtain ⟨g, la, ra, rfl, hb, hl, hr, c0, c1, c2, c3, c4⟩ := h.cells
    obtain ⟨sa, rfl⟩ := hs.form
    have hsz : (Tr.node k v l r).size = l.size + r.size + 1 := rfl
    rw [hsz] at ht
    have HL := Lib.hid hl
    have HR := Lib.hid hr
    have HS := Lib.hid hs
    have hgl : g < w.heap.size := (Array.getElem?_eq_some_iff.1 hb).1
    have HLS := Lib.hid (fun (W : World) (hW : StayN w W) => tlenN s _ W (AtN.stay hW _ _ hs))
    have HLL := Lib.hid (fun (W : World) (hW : StayN w W) => tlenN l _ W (AtN.stay hW _ _ hl))
    have HLR := Lib.hid (fun (W : World) (hW : StayN w W) => tlenN r _ W (AtN.stay hW _ _ hr))
    obtain ⟨n, hn1⟩ : ∃ n, l.size + r.size + 1 = n := ⟨_, rfl⟩
    obtain ⟨ss, hss⟩ : ∃ n, s.size = n := ⟨_, rfl⟩
    obtain ⟨nl, hnl⟩ : ∃ n, l.size = n := ⟨_, rfl⟩
    obtain ⟨nr, hnr⟩ : ∃ n, r.size = n := ⟨_, rfl⟩
    have HN1 := Lib.hid hn1
    have HSS := Lib.hid hss
    have HNL := Lib.hid hnl
    have HNR := Lib.hid hnr
    rw [hn1] at c2 ht
    rw [hss] at HLS hz
    rw [hnl] at HLL
    rw [hnr] at HLR
    have hsum : nl + nr + 1 = n := by omega
    clear h hb hl hr hn hs hn1 hss hnl hnr
    have HV : Hid True := Lib.hid trivial
    cases b with
    | false =>
      rw [show bitI false = 0 from rfl]
      obtain ⟨d, hd⟩ : ∃ d : Int, (ss : Int) - (nl : Int) = d := ⟨_, rfl⟩
      obtain ⟨m, hm⟩ : ∃ m : Nat, ss + nr + 1 = m := ⟨_, rfl⟩
      have hm2 : (n : Int) + d = (m : Int) := by omega
      have hw1 : IntKind.i64.wrap d = d := IntWalk.i64_in _ (by omega)
      have hw2 : IntKind.i64.wrap (m : Int) = m := IntWalk.i64_in _ (by omega)
      have HM : Hid (s.size + r.size + 1 = m) := Lib.hid (by rw [HSS.out, HNR.out]; exact hm)
      clear hm hsum
      go_enter Tryd.func66, Tryd.ntmps66
      go_upto_region 2 with fail
      have hnew := World.alloc_heap_new w (.cells #[.int .u64 k, .int .i64 v, .int .i64 n, .pointer la, .pointer ra] 80)
      obtain ⟨w1, hw⟩ : ∃ w1, w.alloc (.cells #[.int .u64 k, .int .i64 v, .int .i64 n, .pointer la, .pointer ra] 80) = w1 := ⟨_, rfl⟩
      have hb1 : Below w.heap.size w w1 := by rw [← hw]; exact (Below.refl _ _).alloc (Nat.le_refl _) _
      rw [hw] at hnew ⊢
      have n2 : w1.cell? ⟨w.heap.size, 2, none⟩ = some (.int .i64 n) := cell_of_row w1 w.heap.size 2 _ _ _ hnew
      have hst : StayN w w1.drew := StayN.of_below hb1.drew
      have k3 : w1.drew.cell? ⟨g, 3, none⟩ = some (.pointer la) := (hb1.drew.cell (p := ⟨g, 3, none⟩) hgl).trans c3
      have k2 : w1.drew.cell? ⟨w.heap.size, 2, none⟩ = some (.int .i64 n) := n2
      have HS1 := Lib.hid (HLS.out _ hst)
      have HS2 := Lib.hid (HLL.out _ hst)
      clear n2 hw
      refine region_seq (l := [_, _, _, _, _, _, _, _, _, _, _, _, _]) (t := [_, _]) (by kernel_rfl) (by decide +kernel) (by decide +kernel) (fun y => { tmps := #[.pointer (some ⟨g, 0, none⟩), .int .i64 0, .pointer sa, undef, undef, undef, .pointer none, .pointer (some ⟨w.heap.size, 0, none⟩), .pointer (some ⟨g, 0, none⟩), .pointer (some ⟨g, 0, none⟩), .agg #[.int .u64 k, .int .i64 v, .int .i64 (n : Nat), .pointer la, .pointer ra], y 0, y 1, y 2, y 3, y 4, y 5, y 6, y 7, y 8, y 9, y 10, y 11, y 12, y 13, undef, undef, undef, undef], defers := [] }) (fun W => W = w1.drew) (fun i' u W => match i' with
        | 0 => u = .pointer (some ⟨w.heap.size, 2, none⟩)
        | 1 => u = .int .i64 (n : Nat)
        | 2 => u = .pointer sa
        | 3 => u = .int .i64 (ss : Nat)
        | 4 => u = .pointer (some ⟨g, 0, none⟩)
        | 5 => u = .int .i64 0
        | 6 => u = .pointer (some ⟨g, 0, none⟩)
        | 7 => u = .pointer (some ⟨g, 3, none⟩)
        | 8 => u = .pointer (some ⟨g, 3, none⟩)
        | 9 => u = .pointer la
        | 10 => u = .int .i64 (nl : Nat)
        | 11 => u = .int .i64 d
        | 12 => u = .int .i64 (m : Nat)
        | _ => True) (fun A B => A = B) ?hC ?hV (fun _ => undef) ?h0 ?hop ?hend
      case hC => exact fun A B h e => e ▸ h
      case h0 => exact rfl
      case hV => exact fun i' u A B h e => by subst e; exact h
      case hop =>
        simp only [AllDo]
        refine ⟨?o0, ?o1, ?o2, ?o3, ?o4, ?o5, ?o6, ?o7, ?o8, ?o9, ?o10, ?o11, ?o12, trivial⟩
        all_goals rintro x W rfl hd Q hQ
        all_goals simp [Region.binds] at hd
        all_goals rw [if_pos (show Region.wanted _ _ = true from rfl)]
        case o0 =>
          go_wp2
          first | exact ⟨_, rfl, rfl, rfl⟩ | simp [updV]
        case o1 =>
          go_wp2
          first | exact ⟨_, rfl, rfl, rfl⟩ | simp [updV, hd]
        case o2 =>
          go_wp2
          first | exact ⟨_, rfl, rfl, rfl⟩ | simp [updV]
        case o3 =>
          go_wp2_with fail
          refine HS1.out.mono ?_
          rintro e W' ⟨rfl, rfl⟩
          go_wp2
          first | exact ⟨_, rfl, rfl, rfl⟩ | simp [updV, hd]
        case o4 =>
          go_wp2
          first | exact ⟨_, rfl, rfl, rfl⟩ | simp [updV]
        case o5 =>
          go_wp2
          first | exact ⟨_, rfl, rfl, rfl⟩ | simp [updV]
        case o6 =>
          go_wp2
          first | exact ⟨_, rfl, rfl, rfl⟩ | simp [updV, hd]
        case o7 =>
          go_wp2
          first | exact ⟨_, rfl, rfl, rfl⟩ | simp [updV, hd]
        case o8 =>
          obtain ⟨h0, h1⟩ := hd
          go_wp2
          first | exact ⟨_, rfl, rfl, rfl⟩ | simp [updV, h0, h1]
        case o9 =>
          go_wp2
          first | exact ⟨_, rfl, rfl, rfl⟩ | simp [updV, hd]
        case o10 =>
          go_wp2_with fail
          refine HS2.out.mono ?_
          rintro e W' ⟨rfl, rfl⟩
          go_wp2
          first | exact ⟨_, rfl, rfl, rfl⟩ | simp [updV, hd]
        case o11 =>
          obtain ⟨h0, h1⟩ := hd
          go_wp2
          first | exact ⟨_, rfl, rfl, rfl⟩ | simp [updV, h0, h1]
        case o12 =>
          obtain ⟨h0, h1⟩ := hd
          go_wp2
          first | exact ⟨_, rfl, rfl, rfl⟩ | simp [updV, h0, h1]
      case hend =>
        intro x W hc hv
        subst hc
        have e12 : x 12 = .int .i64 (m : Nat) := hv 12 (by decide)
        have kf3 : w1.frozen? ⟨w.heap.size, 3, none⟩ = false := frozen_of_row w1 w.heap.size 3 _ _ hnew
        have kc3 : w1.cell? ⟨w.heap.size, 3, none⟩ = some (.pointer la) := cell_of_row w1 w.heap.size 3 _ _ _ hnew
        have kf : w1.drew.frozen? ⟨w.heap.size, 2, none⟩ = false := frozen_of_row w1 w.heap.size 2 _ _ hnew
        clear hv
        simp only [SeqDoes]
        intro Q1 hQ1
        rw [if_pos (show Region.wanted _ _ = true from rfl)]
        go_wp2_with fail
        intro Q2 hQ2
        rw [if_pos (show Region.wanted _ _ = true from rfl)]
        go_wp2_with fail
        go_ret
        have h1 := heap_setCell_same w1 w.heap.size 2 _ _ (.int .i64 m) hnew
        have h2 := heap_setCell_same (w1.setCell ⟨w.heap.size, 2, none⟩ (.int .i64 m)) w.heap.size 3 _ _ (.pointer sa) h1
        exact ⟨_, rfl, at_made k v (by simp at h2; exact h2) HS.out HR.out HM.out ((((hb1.setCell (p := ⟨w.heap.size, 2, none⟩) (Nat.le_refl _) _).setCell (p := ⟨w.heap.size, 3, none⟩) (Nat.le_refl _) _).drew)), ((((hb1.setCell (p := ⟨w.heap.size, 2, none⟩) (Nat.le_refl _) _).setCell (p := ⟨w.heap.size, 3, none⟩) (Nat.le_refl _) _).drew))⟩
    | true =>
      rw [show bitI true = 1 from rfl]
      obtain ⟨d, hd⟩ : ∃ d : Int, (ss : Int) - (nr : Int) = d := ⟨_, rfl⟩
      obtain ⟨m, hm⟩ : ∃ m : Nat, nl + ss + 1 = m := ⟨_, rfl⟩
      have hm2 : (n : Int) + d = (m : Int) := by omega
      have hw1 : IntKind.i64.wrap d = d := IntWalk.i64_in _ (by omega)
      have hw2 : IntKind.i64.wrap (m : Int) = m := IntWalk.i64_in _ (by omega)
      have HM : Hid (l.size + s.size + 1 = m) := Lib.hid (by rw [HNL.out, HSS.out]; exact hm)
      clear hm hsum
      go_enter Tryd.func66, Tryd.ntmps66
      go_upto_region 2 with fail
      have hnew := World.alloc_heap_new w (.cells #[.int .u64 k, .int .i64 v, .int .i64 n, .pointer la, .pointer ra] 80)
      obtain ⟨w1, hw⟩ : ∃ w1, w.alloc (.cells #[.int .u64 k, .int .i64 v, .int .i64 n, .pointer la, .pointer ra] 80) = w1 := ⟨_, rfl⟩
      have hb1 : Below w.heap.size w w1 := by rw [← hw]; exact (Below.refl _ _).alloc (Nat.le_refl _) _
      rw [hw] at hnew ⊢
      have n2 : w1.cell? ⟨w.heap.size, 2, none⟩ = some (.int .i64 n) := cell_of_row w1 w.heap.size 2 _ _ _ hnew
      have hst : StayN w w1.drew := StayN.of_below hb1.drew
      have k4 : w1.drew.cell? ⟨g, 4, none⟩ = some (.pointer ra) := (hb1.drew.cell (p := ⟨g, 4, none⟩) hgl).trans c4
      have k2 : w1.drew.cell? ⟨w.heap.size, 2, none⟩ = some (.int .i64 n) := n2
      have HS1 := Lib.hid (HLS.out _ hst)
      have HS2 := Lib.hid (HLR.out _ hst)
      clear n2 hw
      refine region_seq (l := [_, _, _, _, _, _, _, _, _, _, _, _, _]) (t := [_, _]) (by kernel_rfl) (by decide +kernel) (by decide +kernel) (fun y => { tmps := #[.pointer (some ⟨g, 0, none⟩), .int .i64 1, .pointer sa, undef, undef, undef, .pointer none, .pointer (some ⟨w.heap.size, 0, none⟩), .pointer (some ⟨g, 0, none⟩), .pointer (some ⟨g, 0, none⟩), .agg #[.int .u64 k, .int .i64 v, .int .i64 (n : Nat), .pointer la, .pointer ra], y 0, y 1, y 2, y 3, y 4, y 5, y 6, y 7, y 8, y 9, y 10, y 11, y 12, y 13, undef, undef, undef, undef], defers := [] }) (fun W => W = w1.drew) (fun i' u W => match i' with
        | 0 => u = .pointer (some ⟨w.heap.size, 2, none⟩)
        | 1 => u = .int .i64 (n : Nat)
        | 2 => u = .pointer sa
        | 3 => u = .int .i64 (ss : Nat)
        | 4 => u = .pointer (some ⟨g, 0, none⟩)
        | 5 => u = .int .i64 1
        | 6 => u = .pointer (some ⟨g, 0, none⟩)
        | 7 => u = .pointer (some ⟨g, 3, none⟩)
        | 8 => u = .pointer (some ⟨g, 4, none⟩)
        | 9 => u = .pointer ra
        | 10 => u = .int .i64 (nr : Nat)
        | 11 => u = .int .i64 d
        | 12 => u = .int .i64 (m : Nat)
        | _ => True) (fun A B => A = B) ?hC ?hV (fun _ => undef) ?h0 ?hop ?hend
      case hC => exact fun A B h e => e ▸ h
      case h0 => exact rfl
      case hV => exact fun i' u A B h e => by subst e; exact h
      case hop =>
        simp only [AllDo]
        refine ⟨?o0, ?o1, ?o2, ?o3, ?o4, ?o5, ?o6, ?o7, ?o8, ?o9, ?o10, ?o11, ?o12, trivial⟩
        all_goals rintro x W rfl hd Q hQ
        all_goals simp [Region.binds] at hd
        all_goals rw [if_pos (show Region.wanted _ _ = true from rfl)]
        case o0 =>
          go_wp2
          first | exact ⟨_, rfl, rfl, rfl⟩ | simp [updV]
        case o1 =>
          go_wp2
          first | exact ⟨_, rfl, rfl, rfl⟩ | simp [updV, hd]
        case o2 =>
          go_wp2
          first | exact ⟨_, rfl, rfl, rfl⟩ | simp [updV]
        case o3 =>
          go_wp2_with fail
          refine HS1.out.mono ?_
          rintro e W' ⟨rfl, rfl⟩
          go_wp2
          first | exact ⟨_, rfl, rfl, rfl⟩ | simp [updV, hd]
        case o4 =>
          go_wp2
          first | exact ⟨_, rfl, rfl, rfl⟩ | simp [updV]
        case o5 =>
          go_wp2
          first | exact ⟨_, rfl, rfl, rfl⟩ | simp [updV]
        case o6 =>
          go_wp2
          first | exact ⟨_, rfl, rfl, rfl⟩ | simp [updV, hd]
        case o7 =>
          go_wp2
          first | exact ⟨_, rfl, rfl, rfl⟩ | simp [updV, hd]
        case o8 =>
          obtain ⟨h0, h1⟩ := hd
          go_wp2
          first | exact ⟨_, rfl, rfl, rfl⟩ | simp [updV, h0, h1]
        case o9 =>
          go_wp2
          first | exact ⟨_, rfl, rfl, rfl⟩ | simp [updV, hd]
        case o10 =>
          go_wp2_with fail
          refine HS2.out.mono ?_
          rintro e W' ⟨rfl, rfl⟩
          go_wp2
          first | exact ⟨_, rfl, rfl, rfl⟩ | simp [updV, hd]
        case o11 =>
          obtain ⟨h0, h1⟩ := hd
          go_wp2
          first | exact ⟨_, rfl, rfl, rfl⟩ | simp [updV, h0, h1]
        case o12 =>
          obtain ⟨h0, h1⟩ := hd
          go_wp2
          first | exact ⟨_, rfl, rfl, rfl⟩ | simp [updV, h0, h1]
      case hend =>
        intro x W hc hv
        subst hc
        have e12 : x 12 = .int .i64 (m : Nat) := hv 12 (by decide)
        have kf3 : w1.frozen? ⟨w.heap.size, 4, none⟩ = false := frozen_of_row w1 w.heap.size 4 _ _ hnew
        have kc3 : w1.cell? ⟨w.heap.size, 4, none⟩ = some (.pointer ra) := cell_of_row w1 w.heap.size 4 _ _ _ hnew
        have kf : w1.drew.frozen? ⟨w.heap.size, 2, none⟩ = false := frozen_of_row w1 w.heap.size 2 _ _ hnew
        clear hv
        simp only [SeqDoes]
        intro Q1 hQ1
        rw [if_pos (show Region.wanted _ _ = true from rfl)]
        go_wp2_with fail
        intro Q2 hQ2
        rw [if_pos (show Region.wanted _ _ = true from rfl)]
        go_wp2_with fail
        go_ret
        have h1 := heap_setCell_same w1 w.heap.size 2 _ _ (.int .i64 m) hnew
        have h2 := heap_setCell_same (w1.setCell ⟨w.heap.size, 2, none⟩ (.int .i64 m)) w.heap.size 4 _ _ (.pointer sa) h1
        exact ⟨_, rfl, at_made k v (by simp at h2; exact h2) HL.out HS.out HM.out ((((hb1.setCell (p := ⟨w.heap.size, 2, none⟩) (Nat.le_refl _) _).setCell (p := ⟨w.heap.size, 4, none⟩) (Nat.le_refl _) _).drew)), ((((hb1.setCell (p := ⟨w.heap.size, 2, none⟩) (Nat.le_refl _) _).setCell (p := ⟨w.heap.size, 4, none⟩) (Nat.le_refl _) _).drew))⟩
end Go.Proofs.YtfgppkmhjjnnnaaDoor
