/- A device in memory; the calls of package device that touch only its own fields. -/
import Derived.Test.YtdimjeppcfacdaaRefY
import Derived.Laws.CopyOwn
import Derived.Laws.Rows
import Derived.RegionTactic
import Derived.Outline
namespace Go.Proofs.Ytdimjeppcfacdaa
open Go.RowKit

/-- Of the blocks that were there only those of own may have turned. -/
structure But (own : List Nat) (W W' : World) : Prop where
  os : W'.os = W.os
  tape : W'.tape = W.tape
  output : W'.output = W.output
  size : W.heap.size ≤ W'.heap.size
  block : ∀ k, k < W.heap.size → k ∉ own → W'.heap[k]? = W.heap[k]?
theorem But.refl (own : List Nat) (W : World) : But own W W := ⟨rfl, rfl, rfl, Nat.le_refl _, fun _ _ _ => rfl⟩
theorem But.of_below {own : List Nat} {W W' : World} (h : Below W.heap.size W W') : But own W W' := ⟨h.os, h.tape, h.output, h.size, fun k hk _ => h.block k hk⟩
theorem But.trans {own own' : List Nat} {A B C : World} (h : But own A B) (h' : But own' B C) (hs : ∀ k ∈ own', k ∈ own ∨ A.heap.size ≤ k) : But own A C :=
  ⟨h'.os.trans h.os, h'.tape.trans h.tape, h'.output.trans h.output, Nat.le_trans h.size h'.size, fun k hk hn => (h'.block k (Nat.lt_of_lt_of_le hk h.size) (fun e => by
    rcases hs k e with e1 | e1
    · exact hn e1
    · omega)).trans (h.block k hk hn)⟩
theorem But.trans' {own : List Nat} {A B C : World} (h : But own A B) (h' : But own B C) : But own A C := h.trans h' fun _ hk => .inl hk
theorem But.more {own own' : List Nat} {A B : World} (h : But own A B) (hs : ∀ k ∈ own, k ∈ own' ∨ A.heap.size ≤ k) : But own' A B :=
  ⟨h.os, h.tape, h.output, h.size, fun k hk hn => h.block k hk (fun e => by
    rcases hs k e with e1 | e1
    · exact hn e1
    · omega)⟩
theorem But.set {own : List Nat} {A B : World} (h : But own A B) {p : Addr} (hp : p.block ∈ own) (u : Value) : But own A (B.setCell p u) :=
  ⟨h.os, h.tape, h.output, by simp [World.setCell]; exact h.size, fun k hk hn => (Below.heap_setCell _ _ _ _ (fun e => hn (by rw [e]; exact hp))).trans (h.block k hk hn)⟩
theorem But.drew {own : List Nat} {A B : World} (h : But own A B) : But own A B.drew := ⟨h.os, h.tape, h.output, h.size, h.block⟩
theorem But.below {own : List Nat} {A B : World} {n : Nat} (h : But own A B) (ho : ∀ k ∈ own, n ≤ k) (hn : n ≤ A.heap.size) : Below n A B :=
  ⟨h.os, h.tape, h.output, h.size, fun k hk => h.block k (by omega) (fun e => by have := ho k e; omega)⟩

/-- The fields of a device at block b. -/
def DevB (W : World) (b : Nat) (cap : Nat) (v0 v1 : Value) (dn : Bool) (lf tn : Nat) : Prop :=
  W.heap[b]? = some (.cells #[.int .i64 cap, v0, v1, .bool dn, .int .i64 lf, .int .i64 tn] 132 (0, 0))
section
variable {W W' : World} {b cap lf tn : Nat} {v0 v1 : Value} {dn : Bool}
theorem DevB.lt (h : DevB W b cap v0 v1 dn lf tn) : b < W.heap.size := (Array.getElem?_eq_some_iff.1 h).1
theorem DevB.cell (h : DevB W b cap v0 v1 dn lf tn) (i : Nat) : W.cell? ⟨b, i, none⟩ = (#[Value.int .i64 cap, v0, v1, .bool dn, .int .i64 lf, .int .i64 tn])[i]? := cell_of_row W b i _ _ _ h
theorem DevB.frozen (h : DevB W b cap v0 v1 dn lf tn) (i : Nat) : W.frozen? ⟨b, i, none⟩ = false := frozen_of_row W b i _ _ h
theorem DevB.but (h : DevB W b cap v0 v1 dn lf tn) {own : List Nat} (hb : But own W W') (hn : b ∉ own) : DevB W' b cap v0 v1 dn lf tn := (hb.block b h.lt hn).trans h
theorem DevB.below (h : DevB W b cap v0 v1 dn lf tn) {n : Nat} (hb : Below n W W') (hn : b < n) : DevB W' b cap v0 v1 dn lf tn := (hb.block b hn).trans h
theorem DevB.drew (h : DevB W b cap v0 v1 dn lf tn) : DevB W.drew b cap v0 v1 dn lf tn := h
theorem DevB.set_r0 (h : DevB W b cap v0 v1 dn lf tn) (u : Value) : DevB (W.setCell ⟨b, 1, none⟩ u) b cap u v1 dn lf tn := heap_setCell_same W b 1 _ _ u h
theorem DevB.set_r1 (h : DevB W b cap v0 v1 dn lf tn) (u : Value) : DevB (W.setCell ⟨b, 2, none⟩ u) b cap v0 u dn lf tn := heap_setCell_same W b 2 _ _ u h
theorem DevB.set_dn (h : DevB W b cap v0 v1 dn lf tn) (u : Bool) : DevB (W.setCell ⟨b, 3, none⟩ (.bool u)) b cap v0 v1 u lf tn := heap_setCell_same W b 3 _ _ _ h
theorem DevB.set_lf (h : DevB W b cap v0 v1 dn lf tn) (u : Nat) : DevB (W.setCell ⟨b, 4, none⟩ (.int .i64 u)) b cap v0 v1 dn u tn := heap_setCell_same W b 4 _ _ _ h
theorem DevB.set_tn (h : DevB W b cap v0 v1 dn lf tn) (u : Nat) : DevB (W.setCell ⟨b, 5, none⟩ (.int .i64 u)) b cap v0 v1 dn lf u := heap_setCell_same W b 5 _ _ _ h
theorem DevB.c0 (h : DevB W b cap v0 v1 dn lf tn) : W.cell? ⟨b, 0, none⟩ = some (.int .i64 cap) := h.cell 0
theorem DevB.c1 (h : DevB W b cap v0 v1 dn lf tn) : W.cell? ⟨b, 1, none⟩ = some v0 := h.cell 1
theorem DevB.c2 (h : DevB W b cap v0 v1 dn lf tn) : W.cell? ⟨b, 2, none⟩ = some v1 := h.cell 2
theorem DevB.c3 (h : DevB W b cap v0 v1 dn lf tn) : W.cell? ⟨b, 3, none⟩ = some (.bool dn) := h.cell 3
theorem DevB.c4 (h : DevB W b cap v0 v1 dn lf tn) : W.cell? ⟨b, 4, none⟩ = some (.int .i64 lf) := h.cell 4
theorem DevB.c5 (h : DevB W b cap v0 v1 dn lf tn) : W.cell? ⟨b, 5, none⟩ = some (.int .i64 tn) := h.cell 5
end

/-- Is it a region? -/
def regB (i : Int) : Bool := decide (i = 0 ∨ i = 1)
theorem regB_t {i : Int} (h : regB i = true) : i = 0 ∨ i = 1 := of_decide_eq_true h
theorem regB_f {i : Int} (h : regB i = false) : i ≠ 0 ∧ i ≠ 1 := by have := of_decide_eq_false h; omega

set_option maxHeartbeats 400000 in
theorem dhas_any (p : Value) (i : Int) (w : World) :
    Calls Try.prog 94 #[p, .int .i64 i] w fun e w' => e = .returned (.bool (regB i)) ∧ w = w' := by
  by_cases h0 : 0 ≤ i
  · by_cases h2 : i < 2
    · rw [show regB i = true from decide_eq_true (by omega)]
      go_enter Try.func94, Try.ntmps94
      go_wp2
      go_ret
      exact ⟨rfl, rfl⟩
    · rw [show regB i = false from decide_eq_false (by omega)]
      go_enter Try.func94, Try.ntmps94
      go_wp2
      go_ret
      exact ⟨rfl, rfl⟩
  · rw [show regB i = false from decide_eq_false (by omega)]
    go_enter Try.func94, Try.ntmps94
    go_wp2
    go_ret
    exact ⟨rfl, rfl⟩

theorem own_of_heap {W : World} {g n base : Nat} {cs : List Value} (h : W.heap[g]? = some (.cells cs.toArray 5 (0, 0))) (hn : cs.length = n) (hb : base ≤ g) (hm : n ≤ maxLen) :
    W.ownsRow base 5 1 (.slice (some ⟨g, 0, none⟩) n n) n cs :=
  ⟨by omega, .inr ⟨g, n, cs.toArray, rfl, hb, h, Nat.le_refl _, hm, by simp [hn], by rw [List.take_of_length_le (by simp; omega)]⟩⟩

set_option maxRecDepth 100000 in
set_option maxHeartbeats 1000000 in
/-- New memory of the same bytes. -/
theorem copied_any (a : Option Addr) (n c : Nat) (l : List Nat) (hl : l.length ≤ 1073741824) (w : World) (hS : Sl encY w.heap.size w (.slice a n c) l) :
    Calls Try.prog 93 #[.slice a n c] w fun e w' => ∃ g, e = .returned (.slice (some ⟨g, 0, none⟩) l.length l.length) ∧ w'.ownsRow w.heap.size 5 1 (.slice (some ⟨g, 0, none⟩) l.length l.length) l.length (l.map encY) ∧ Below w.heap.size w w' := by
  obtain ⟨i0, hi, hz0, hz1, hz2⟩ := info_parts info8
  have hsz : (Try.prog.info? 5).map (·.size) = some 1 := by kernel_rfl
  obtain rfl := hS.len
  have HS := Lib.hid hS
  clear hS
  obtain ⟨n, hn⟩ : ∃ n, l.length = n := ⟨_, rfl⟩
  have HL := Lib.hid hn
  rw [hn] at hl HS ⊢
  clear hn
  go_enter Try.func93, Try.ntmps93
  go_wp2_with (refine wpList_make_full _ rfl (.tmp 5) (.tmp 5) 22 rfl w.heap.size 5 i0 (.int .u8 0) 1 Try.underlying22 hi hz0 hz1 .i64 .i64 _ _ n rfl rfl rfl rfl (by rw [hz2]; omega) (by unfold maxLen; omega) (Nat.le_refl _) ?_)
  intro w1 hown1 hg1
  have hb1 : Below w.heap.size w w1 := (Below.refl _ w).grown hg1 (Nat.le_refl _) (fun k h => by cases h)
  have HS1 := Lib.hid (HS.out.below hb1)
  obtain ⟨cur, hcur, hcl⟩ : ∃ cur : List Value, w1.heap[w.heap.size]? = some (.cells cur.toArray 5 (0, 0)) ∧ cur.length = n := by
    rcases hown1.2 with ⟨e, _⟩ | ⟨g, cap, cur, e, _, hh, _, _, hcs, _⟩
    · cases e
    · cases e; exact ⟨cur.toList, by simpa using hh, by simpa using hcs⟩
  have HC := Lib.hid hcur
  have HCL := Lib.hid hcl
  clear hown1 hg1 hcur hcl
  go_wp2_with (refine wpList_copy_splice rfl (.tmp 7) (.tmp 8) 22 22 rfl 5 Try.underlying22 hsz (some ⟨w.heap.size, 0, none⟩) a n n n c rfl rfl w.heap.size 0 cur 5 HC.out (l.map encY) (by rw [List.length_map, HL.out]; simp) (fun hp => ⟨rfl, ?_⟩) (by rw [List.length_map, HL.out, HCL.out]; omega) (encY_one l) w.heap.size w hb1 (Nat.le_refl _) ?_)
  · rcases HS1.out with ⟨rfl, _⟩ | ⟨b, off, cap, e, hb, _, hc⟩
    · simp at hp
    · cases e
      refine ⟨⟨b, off, none⟩, rfl, fun j v hj => ?_⟩
      rw [List.getElem?_map] at hj
      cases hx : l[j]? with
      | none => rw [hx] at hj; cases hj
      | some x => rw [hx] at hj; cases hj; rw [show (⟨b, off, none⟩ : Addr).add j = ⟨b, off + j, none⟩ from by unfold Addr.add; split <;> simp_all]; exact hc j x hx
  · intro w2 hh hb2
    have hown : w2.ownsRow w.heap.size 5 1 (.slice (some ⟨w.heap.size, 0, none⟩) n n) n (l.map encY) := by
      refine own_of_heap ?_ (by rw [List.length_map, HL.out]) (Nat.le_refl _) (by unfold maxLen; omega)
      have h3 := hh.out
      have e : splice cur 0 (l.map encY) = l.map encY := by
        simp only [splice, List.take_zero, List.nil_append, Nat.zero_add]
        rw [List.drop_of_length_le (by rw [List.length_map, HL.out, HCL.out]; omega), List.append_nil]
      rw [e] at h3
      exact h3
    have HO := Lib.hid hown
    clear hown hh
    go_wp2
    go_ret
    exact ⟨_, rfl, HO.out, hb2⟩
end Go.Proofs.Ytdimjeppcfacdaa
