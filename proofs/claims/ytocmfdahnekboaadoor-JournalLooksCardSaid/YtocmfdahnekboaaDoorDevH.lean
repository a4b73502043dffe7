/- A device in memory; the calls of package device that touch only its own fields. -/
import Derived.Test.YtocmfdahnekboaaDoorRefY
import Derived.Laws.CopyOwn
import Derived.Laws.Rows
import Derived.RegionTactic
import Derived.Outline
import Derived.Maps.AppendAt
import Derived.BigRegion
import Derived.Deep.RegionWith
import Derived.BigQuiet
import Derived.Deep.QuietTactic
import Derived.Deep.WholeRow
namespace Go.Proofs.YtocmfdahnekboaaDoor
open Go.RowKit

/-- Of the blocks that were there only those of own may have turned. -/
structure But (own : List Nat) (W W' : World) : Prop where
  os : W'.os = W.os
  tape : W'.tape = W.tape
  output : W'.output = W.output
  size : W.heap.size ≤ W'.heap.size
  block : ∀ k, k < W.heap.size → k ∉ own → W'.heap[k]? = W.heap[k]?
theorem But.refl (own : List Nat) (W : World) : But own W W := ⟨rfl, rfl, rfl, Nat.le_refl _, fun _ _ _ => rfl⟩
theorem But.of_below {own : List Nat} {W W' : World} (h : Below W.heap.size W W') : But own W W' := ⟨h.os, h.tape, h.output, h.size, fun k hk _ => h.block k hk⟩
theorem But.trans {own own' : List Nat} {A B C : World} (h : But own A B) (h' : But own' B C) (hs : ∀ k ∈ own', k ∈ own ∨ A.heap.size ≤ k) : But own A C :=
  ⟨h'.os.trans h.os, h'.tape.trans h.tape, h'.output.trans h.output, Nat.le_trans h.size h'.size, fun k hk hn => (h'.block k (Nat.lt_of_lt_of_le hk h.size) (fun e => by
    rcases hs k e with e1 | e1
    · exact hn e1
    · omega)).trans (h.block k hk hn)⟩
theorem But.trans' {own : List Nat} {A B C : World} (h : But own A B) (h' : But own B C) : But own A C := h.trans h' fun _ hk => .inl hk
theorem But.more {own own' : List Nat} {A B : World} (h : But own A B) (hs : ∀ k ∈ own, k ∈ own' ∨ A.heap.size ≤ k) : But own' A B :=
  ⟨h.os, h.tape, h.output, h.size, fun k hk hn => h.block k hk (fun e => by
    rcases hs k e with e1 | e1
    · exact hn e1
    · omega)⟩
theorem But.set {own : List Nat} {A B : World} (h : But own A B) {p : Addr} (hp : p.block ∈ own) (u : Value) : But own A (B.setCell p u) :=
  ⟨h.os, h.tape, h.output, by simp [World.setCell]; exact h.size, fun k hk hn => (Below.heap_setCell _ _ _ _ (fun e => hn (by rw [e]; exact hp))).trans (h.block k hk hn)⟩
theorem But.drew {own : List Nat} {A B : World} (h : But own A B) : But own A B.drew := ⟨h.os, h.tape, h.output, h.size, h.block⟩
theorem But.below {own : List Nat} {A B : World} {n : Nat} (h : But own A B) (ho : ∀ k ∈ own, n ≤ k) (hn : n ≤ A.heap.size) : Below n A B :=
  ⟨h.os, h.tape, h.output, h.size, fun k hk => h.block k (by omega) (fun e => by have := ho k e; omega)⟩

/-- The fields of a device at block b. -/
def DevB (W : World) (b : Nat) (cap : Nat) (v0 v1 : Value) (dn : Bool) (lf tn : Nat) : Prop :=
  W.heap[b]? = some (.cells #[.int .i64 cap, v0, v1, .bool dn, .int .i64 lf, .int .i64 tn] 56 (0, 0))
section
variable {W W' : World} {b cap lf tn : Nat} {v0 v1 : Value} {dn : Bool}
theorem DevB.lt (h : DevB W b cap v0 v1 dn lf tn) : b < W.heap.size := (Array.getElem?_eq_some_iff.1 h).1
theorem DevB.cell (h : DevB W b cap v0 v1 dn lf tn) (i : Nat) : W.cell? ⟨b, i, none⟩ = (#[Value.int .i64 cap, v0, v1, .bool dn, .int .i64 lf, .int .i64 tn])[i]? := cell_of_row W b i _ _ _ h
theorem DevB.frozen (h : DevB W b cap v0 v1 dn lf tn) (i : Nat) : W.frozen? ⟨b, i, none⟩ = false := frozen_of_row W b i _ _ h
theorem DevB.but (h : DevB W b cap v0 v1 dn lf tn) {own : List Nat} (hb : But own W W') (hn : b ∉ own) : DevB W' b cap v0 v1 dn lf tn := (hb.block b h.lt hn).trans h
theorem DevB.below (h : DevB W b cap v0 v1 dn lf tn) {n : Nat} (hb : Below n W W') (hn : b < n) : DevB W' b cap v0 v1 dn lf tn := (hb.block b hn).trans h
theorem DevB.drew (h : DevB W b cap v0 v1 dn lf tn) : DevB W.drew b cap v0 v1 dn lf tn := h
theorem DevB.set_r0 (h : DevB W b cap v0 v1 dn lf tn) (u : Value) : DevB (W.setCell ⟨b, 1, none⟩ u) b cap u v1 dn lf tn := heap_setCell_same W b 1 _ _ u h
theorem DevB.set_r1 (h : DevB W b cap v0 v1 dn lf tn) (u : Value) : DevB (W.setCell ⟨b, 2, none⟩ u) b cap v0 u dn lf tn := heap_setCell_same W b 2 _ _ u h
theorem DevB.set_dn (h : DevB W b cap v0 v1 dn lf tn) (u : Bool) : DevB (W.setCell ⟨b, 3, none⟩ (.bool u)) b cap v0 v1 u lf tn := heap_setCell_same W b 3 _ _ _ h
theorem DevB.set_lf (h : DevB W b cap v0 v1 dn lf tn) (u : Nat) : DevB (W.setCell ⟨b, 4, none⟩ (.int .i64 u)) b cap v0 v1 dn u tn := heap_setCell_same W b 4 _ _ _ h
theorem DevB.set_tn (h : DevB W b cap v0 v1 dn lf tn) (u : Nat) : DevB (W.setCell ⟨b, 5, none⟩ (.int .i64 u)) b cap v0 v1 dn lf u := heap_setCell_same W b 5 _ _ _ h
theorem DevB.c0 (h : DevB W b cap v0 v1 dn lf tn) : W.cell? ⟨b, 0, none⟩ = some (.int .i64 cap) := h.cell 0
theorem DevB.c1 (h : DevB W b cap v0 v1 dn lf tn) : W.cell? ⟨b, 1, none⟩ = some v0 := h.cell 1
theorem DevB.c2 (h : DevB W b cap v0 v1 dn lf tn) : W.cell? ⟨b, 2, none⟩ = some v1 := h.cell 2
theorem DevB.c3 (h : DevB W b cap v0 v1 dn lf tn) : W.cell? ⟨b, 3, none⟩ = some (.bool dn) := h.cell 3
theorem DevB.c4 (h : DevB W b cap v0 v1 dn lf tn) : W.cell? ⟨b, 4, none⟩ = some (.int .i64 lf) := h.cell 4
theorem DevB.c5 (h : DevB W b cap v0 v1 dn lf tn) : W.cell? ⟨b, 5, none⟩ = some (.int .i64 tn) := h.cell 5
end

/-- Is it a region? -/
def regB (i : Int) : Bool := decide (i = 0 ∨ i = 1)
theorem regB_t {i : Int} (h : regB i = true) : i = 0 ∨ i = 1 := of_decide_eq_true h
theorem regB_f {i : Int} (h : regB i = false) : i ≠ 0 ∧ i ≠ 1 := by have := of_decide_eq_false h; omega

set_option maxHeartbeats 400000 in
theorem dhas_any (p : Value) (i : Int) (w : World) :
    Calls Tryd.prog 21 #[p, .int .i64 i] w fun e w' => e = .returned (.bool (regB i)) ∧ w = w' := by
  by_cases h0 : 0 ≤ i
  · by_cases h2 : i < 2
    · rw [show regB i = true from decide_eq_true (by omega)]
      go_enter Tryd.func21, Tryd.ntmps21
      go_wp2
      go_ret
      exact ⟨rfl, rfl⟩
    · rw [show regB i = false from decide_eq_false (by omega)]
      go_enter Tryd.func21, Tryd.ntmps21
      go_wp2
      go_ret
      exact ⟨rfl, rfl⟩
  · rw [show regB i = false from decide_eq_false (by omega)]
    go_enter Tryd.func21, Tryd.ntmps21
    go_wp2
    go_ret
    exact ⟨rfl, rfl⟩

theorem own_of_heap {W : World} {g n base : Nat} {cs : List Value} (h : W.heap[g]? = some (.cells cs.toArray 5 (0, 0))) (hn : cs.length = n) (hb : base ≤ g) (hm : n ≤ maxLen) :
    W.ownsRow base 5 1 (.slice (some ⟨g, 0, none⟩) n n) n cs :=
  ⟨by omega, .inr ⟨g, n, cs.toArray, rfl, hb, h, Nat.le_refl _, hm, by simp [hn], by rw [List.take_of_length_le (by simp; omega)]⟩⟩

set_option maxRecDepth 100000 in
set_option maxHeartbeats 1000000 in
/-- New memory of the same bytes. -/
theorem copied_any (a : Option Addr) (n c : Nat) (l : List Nat) (hl : l.length ≤ 1073741824) (w : World) (hS : Sl encY w.heap.size w (.slice a n c) l) :
    Calls Tryd.prog 22 #[.slice a n c] w fun e w' => ∃ g, e = .returned (.slice (some ⟨g, 0, none⟩) l.length l.length) ∧ w'.ownsRow w.heap.size 5 1 (.slice (some ⟨g, 0, none⟩) l.length l.length) l.length (l.map encY) ∧ Below w.heap.size w w' := by
  obtain ⟨i0, hi, hz0, hz1, hz2⟩ := info_parts info8
  have hsz : (Tryd.prog.info? 5).map (·.size) = some 1 := by kernel_rfl
  obtain rfl := hS.len
  have HS := Lib.hid hS
  clear hS
  obtain ⟨n, hn⟩ : ∃ n, l.length = n := ⟨_, rfl⟩
  have HL := Lib.hid hn
  rw [hn] at hl HS ⊢
  clear hn
  go_enter Tryd.func22, Tryd.ntmps22
  go_wp2_with (refine wpList_make_full _ rfl (.tmp 5) (.tmp 5) 22 rfl w.heap.size 5 i0 (.int .u8 0) 1 Tryd.underlying22 hi hz0 hz1 .i64 .i64 _ _ n rfl rfl rfl rfl (by rw [hz2]; omega) (by unfold maxLen; omega) (Nat.le_refl _) ?_)
  intro w1 hown1 hg1
  have hb1 : Below w.heap.size w w1 := (Below.refl _ w).grown hg1 (Nat.le_refl _) (fun k h => by cases h)
  have HS1 := Lib.hid (HS.out.below hb1)
  obtain ⟨cur, hcur, hcl⟩ : ∃ cur : List Value, w1.heap[w.heap.size]? = some (.cells cur.toArray 5 (0, 0)) ∧ cur.length = n := by
    rcases hown1.2 with ⟨e, _⟩ | ⟨g, cap, cur, e, _, hh, _, _, hcs, _⟩
    · cases e
    · cases e; exact ⟨cur.toList, by simpa using hh, by simpa using hcs⟩
  have HC := Lib.hid hcur
  have HCL := Lib.hid hcl
  clear hown1 hg1 hcur hcl
  go_wp2_with (refine wpList_copy_splice rfl (.tmp 7) (.tmp 8) 22 22 rfl 5 Tryd.underlying22 hsz (some ⟨w.heap.size, 0, none⟩) a n n n c rfl rfl w.heap.size 0 cur 5 HC.out (l.map encY) (by rw [List.length_map, HL.out]; simp) (fun hp => ⟨rfl, ?_⟩) (by rw [List.length_map, HL.out, HCL.out]; omega) (encY_one l) w.heap.size w hb1 (Nat.le_refl _) ?_)
  · rcases HS1.out with ⟨rfl, _⟩ | ⟨b, off, cap, e, hb, _, hc⟩
    · simp at hp
    · cases e
      refine ⟨⟨b, off, none⟩, rfl, fun j v hj => ?_⟩
      rw [List.getElem?_map] at hj
      cases hx : l[j]? with
      | none => rw [hx] at hj; cases hj
      | some x => rw [hx] at hj; cases hj; rw [show (⟨b, off, none⟩ : Addr).add j = ⟨b, off + j, none⟩ from by unfold Addr.add; split <;> simp_all]; exact hc j x hx
  · intro w2 hh hb2
    have hown : w2.ownsRow w.heap.size 5 1 (.slice (some ⟨w.heap.size, 0, none⟩) n n) n (l.map encY) := by
      refine own_of_heap ?_ (by rw [List.length_map, HL.out]) (Nat.le_refl _) (by unfold maxLen; omega)
      have h3 := hh.out
      have e : splice cur 0 (l.map encY) = l.map encY := by
        simp only [splice, List.take_zero, List.nil_append, Nat.zero_add]
        rw [List.drop_of_length_le (by rw [List.length_map, HL.out, HCL.out]; omega), List.append_nil]
      rw [e] at h3
      exact h3
    have HO := Lib.hid hown
    clear hown hh
    go_wp2
    go_ret
    exact ⟨_, rfl, HO.out, hb2⟩
end Go.Proofs.YtocmfdahnekboaaDoor

/- Calls of package device that touch only its own fields. -/
namespace Go.Proofs.YtocmfdahnekboaaDoor
open Go.RowKit

section
variable {b cap lf tn : Nat} {v0 v1 : Value} {dn : Bool}

set_option maxHeartbeats 400000 in
theorem capacity_any (w : World) (h : DevB w b cap v0 v1 dn lf tn) :
    Calls Tryd.prog 36 #[.pointer (some ⟨b, 0, none⟩)] w fun e w' => e = .returned (.int .i64 cap) ∧ w = w' := by
  have c := h.c0
  go_enter Tryd.func36, Tryd.ntmps36
  go_wp2
  go_ret
  exact ⟨rfl, rfl⟩
set_option maxHeartbeats 400000 in
theorem down_any (w : World) (h : DevB w b cap v0 v1 dn lf tn) :
    Calls Tryd.prog 45 #[.pointer (some ⟨b, 0, none⟩)] w fun e w' => e = .returned (.bool dn) ∧ w = w' := by
  have c := h.c3
  go_enter Tryd.func45, Tryd.ntmps45
  go_wp2
  go_ret
  exact ⟨rfl, rfl⟩
/-- How many bytes may be turned: as many as were said, or so many that it never ends. -/
def cutN (n : Int) : Nat := if n < 0 then 9223372036854775807 else n.toNat
end
/-- The power is there for so many bytes; an error if that is not enough. -/
def doneN (n lf : Nat) : Nat := min n lf
def downE (n lf : Nat) : Int := if lf < n then 30 else 0
def turnedN (tn k : Nat) : Nat := min (tn + k) 1099511627776
set_option maxRecDepth 100000 in
set_option maxHeartbeats 1000000 in
theorem dturn_any {b cap lf tn : Nat} {v0 v1 : Value} {dn : Bool} (n : Nat) (hn : n ≤ 1073741824) (hlf : lf ≤ 9223372036854775807) (htn : tn ≤ 1099511627776) (w : World) (h : DevB w b cap v0 v1 dn lf tn) :
    Calls Tryd.prog 49 #[.pointer (some ⟨b, 0, none⟩), .int .i64 n] w fun e w' =>
      e = .returned (.tuple #[.int .i64 (doneN n lf), .int .i64 (downE n lf)]) ∧ DevB w' b cap v0 v1 (dn || decide (lf < n)) (lf - doneN n lf) (turnedN tn (doneN n lf)) ∧ But [b] w w' ∧ w'.heap.size = w.heap.size := by
  have c3 := h.c3
  have f3 := h.frozen 3
  have c4 := h.c4
  have f4 := h.frozen 4
  have c5 := h.c5
  have f5 := h.frozen 5
  have H := Lib.hid h
  clear h
  by_cases hle : n ≤ lf
  · have hd : doneN n lf = n := Nat.min_eq_left hle
    have he : downE n lf = 0 := if_neg (by omega)
    have hdd : decide (lf < n) = false := decide_eq_false (by omega)
    rw [hd, he, hdd, Bool.or_false]
    clear hd he hdd
    go_enter Tryd.func49, Tryd.ntmps49
    go_wp2
    all_goals
      go_ret2
      refine ⟨rfl, ?_, ((But.refl _ _).set (by simp) _).set (by simp) _, by simp [World.setCell]⟩
      have h1 := (H.out.set_lf (lf - n)).set_tn (turnedN tn n)
      first
        | (rw [show ((lf - n : Nat) : Int) = (lf : Int) - (n : Int) from by omega, show ((turnedN tn n : Nat) : Int) = (tn : Int) + (n : Int) from by unfold turnedN; omega] at h1; exact h1)
        | (rw [show ((lf - n : Nat) : Int) = (lf : Int) - (n : Int) from by omega, show ((turnedN tn n : Nat) : Int) = 1099511627776 from by unfold turnedN; omega] at h1; exact h1)
  · have hd : doneN n lf = lf := Nat.min_eq_right (by omega)
    have he : downE n lf = 30 := if_pos (by omega)
    have hdd : decide (lf < n) = true := decide_eq_true (by omega)
    rw [hd, he, hdd, Bool.or_true]
    clear hd he hdd
    go_enter Tryd.func49, Tryd.ntmps49
    go_wp2
    all_goals
      go_ret2
      refine ⟨rfl, ?_, (((But.refl _ _).set (by simp) _).set (by simp) _).set (by simp) _, by simp [World.setCell]⟩
      have h1 := ((H.out.set_lf 0).set_tn (turnedN tn lf)).set_dn true
      first
        | (rw [show ((turnedN tn lf : Nat) : Int) = (tn : Int) + (lf : Int) from by unfold turnedN; omega] at h1; exact h1)
        | (rw [show ((turnedN tn lf : Nat) : Int) = 1099511627776 from by unfold turnedN; omega] at h1; exact h1)
end Go.Proofs.YtocmfdahnekboaaDoor

/- A device as a whole; New, Len, Bytes. -/
namespace Go.Proofs.YtocmfdahnekboaaDoor
open Go.RowKit

structure DevS where
  cap : Nat
  r0 : List Nat
  r1 : List Nat
  down : Bool
  left : Nat
  turned : Nat
def DevS.row (D : DevS) (i : Int) : List Nat := if i = 0 then D.r0 else if i = 1 then D.r1 else []
def DevS.put (D : DevS) (i : Int) (l : List Nat) : DevS := if i = 0 then { D with r0 := l } else { D with r1 := l }
structure DevS.Ok (D : DevS) : Prop where
  cap : D.cap ≤ 1048576
  l0 : D.r0.length ≤ D.cap
  l1 : D.r1.length ≤ D.cap
  b0 : ∀ x ∈ D.r0, x < 256
  b1 : ∀ x ∈ D.r1, x < 256
  lf : D.left ≤ 9223372036854775807
  tn : D.turned ≤ 1099511627776
def Row (W : World) (v : Value) (l : List Nat) : Prop := W.ownsRow 0 5 1 v l.length (l.map encY)
/-- The device at block b is D; what it has lies in the blocks own, and nowhere else. -/
structure Dev (own : List Nat) (W : World) (b : Nat) (D : DevS) (v0 v1 : Value) : Prop where
  blk : DevB W b D.cap v0 v1 D.down D.left D.turned
  r0 : Row W v0 D.r0
  r1 : Row W v1 D.r1
  bo : b ∈ own
  o0 : ∀ g, v0.ownBlock = some g → g ∈ own ∧ v1.ownBlock ≠ some g
  o1 : ∀ g, v1.ownBlock = some g → g ∈ own
  lt : ∀ k ∈ own, k < W.heap.size
  ok : D.Ok
theorem Row.sl {W : World} {v : Value} {l : List Nat} (h : Row W v l) : Sl encY W.heap.size W v l := Sl.of_owns h
theorem Row.but {W W' : World} {v : Value} {l : List Nat} {own : List Nat} (h : Row W v l) (hb : But own W W') (hn : ∀ g, v.ownBlock = some g → g ∉ own) : Row W' v l := by
  obtain ⟨h1, h2⟩ := h
  refine ⟨h1, ?_⟩
  rcases h2 with h2 | ⟨g, cap, cur, hv, hg, hh, r⟩
  · exact .inl h2
  · exact .inr ⟨g, cap, cur, hv, hg, (hb.block g (Array.getElem?_eq_some_iff.1 hh).1 (hn g (by rw [hv]; rfl))).trans hh, r⟩
/-- A row's block is none of a device's. -/
theorem Row.ne {W : World} {v : Value} {l : List Nat} (h : Row W v l) {b cap lf tn : Nat} {v0 v1 : Value} {dn : Bool} (hd : DevB W b cap v0 v1 dn lf tn) : v.ownBlock ≠ some b := by
  rcases h.2 with ⟨e, _⟩ | ⟨g, c, cur, hv, _, hh, _⟩
  · rw [e]; simp [Value.ownBlock]
  · rw [hv]
    intro e
    obtain rfl : g = b := by simpa [Value.ownBlock] using e
    unfold DevB at hd
    rw [hh] at hd
    cases hd
theorem Row.lt {W : World} {v : Value} {l : List Nat} (h : Row W v l) : ∀ g, v.ownBlock = some g → g < W.heap.size := fun g hg => (World.ownsRow.lt h g hg).2
/-- What turns none of a device's own blocks leaves it as it was. -/
theorem Dev.but {own own2 : List Nat} {W W' : World} {b : Nat} {D : DevS} {v0 v1 : Value} (h : Dev own W b D v0 v1) (hb : But own2 W W') (hn : ∀ k ∈ own, k ∉ own2) : Dev own W' b D v0 v1 :=
  ⟨h.blk.but hb (hn b h.bo), h.r0.but hb (fun g hg => hn g (h.o0 g hg).1), h.r1.but hb (fun g hg => hn g (h.o1 g hg)), h.bo, h.o0, h.o1, fun k hk => Nat.lt_of_lt_of_le (h.lt k hk) hb.size, h.ok⟩
theorem Dev.below {own : List Nat} {W W' : World} {b : Nat} {D : DevS} {v0 v1 : Value} (h : Dev own W b D v0 v1) (hb : Below W.heap.size W W') : Dev own W' b D v0 v1 := h.but (own2 := []) (But.of_below hb) fun _ _ hk => by cases hk
/-- A field of its own block was turned. -/
theorem Dev.field {own : List Nat} {W W' : World} {b : Nat} {D D' : DevS} {v0 v1 : Value} (h : Dev own W b D v0 v1) (hb : But [b] W W') (hblk : DevB W' b D'.cap v0 v1 D'.down D'.left D'.turned) (h0 : D'.r0 = D.r0) (h1 : D'.r1 = D.r1) (ok : D'.Ok) : Dev own W' b D' v0 v1 :=
  ⟨hblk, by rw [h0]; exact h.r0.but hb (fun g hg hk => by simp at hk; subst hk; exact h.r0.ne h.blk hg), by rw [h1]; exact h.r1.but hb (fun g hg hk => by simp at hk; subst hk; exact h.r1.ne h.blk hg), h.bo, h.o0, h.o1, fun k hk => Nat.lt_of_lt_of_le (h.lt k hk) hb.size, ok⟩

/-- The capacity that a device has. -/
def capN (n : Int) : Nat := min n.toNat 1048576
def newD (n : Int) : DevS := ⟨capN n, [], [], false, 9223372036854775807, 0⟩
theorem new_ok (n : Int) : (newD n).Ok := ⟨Nat.min_le_right _ _, Nat.zero_le _, Nat.zero_le _, (fun x hx => by cases hx), (fun x hx => by cases hx), Nat.le_refl _, Nat.zero_le _⟩
theorem row_nil (W : World) : Row W (.slice none 0 0) [] := World.ownsRow_nil _ _ _ _
theorem dev_new (w : World) (n : Int) : Dev [w.heap.size] (w.alloc (.cells #[.int .i64 (capN n), .slice none 0 0, .slice none 0 0, .bool false, .int .i64 9223372036854775807, .int .i64 0] 56)) w.heap.size (newD n) (.slice none 0 0) (.slice none 0 0) :=
  ⟨World.alloc_heap_new w _, row_nil _, row_nil _, by simp, fun g hg => by simp [Value.ownBlock] at hg, fun g hg => by simp [Value.ownBlock] at hg, fun k hk => by simp at hk; subst hk; simp, new_ok n⟩

set_option maxHeartbeats 400000 in
theorem new_any (n : Int) (w : World) :
    Calls Tryd.prog 5 #[.int .i64 n] w fun e w' => e = .returned (.pointer (some ⟨w.heap.size, 0, none⟩)) ∧ Dev [w.heap.size] w' w.heap.size (newD n) (.slice none 0 0) (.slice none 0 0) ∧ Below w.heap.size w w' := by
  have HD := Lib.hid (dev_new w n)
  have HN : Hid ((capN n : Nat) = min n.toNat 1048576) := Lib.hid rfl
  go_enter Tryd.func5, Tryd.ntmps5
  go_wp2
  all_goals go_ret
  all_goals refine ⟨rfl, ?_, (Below.refl _ _).alloc (Nat.le_refl _) _⟩
  all_goals have h1 := HD.out
  · rw [show ((capN n : Nat) : Int) = 0 from by rw [HN.out]; omega] at h1; exact h1
  · rw [show ((capN n : Nat) : Int) = 1048576 from by rw [HN.out]; omega] at h1; exact h1
  · rw [show ((capN n : Nat) : Int) = n from by rw [HN.out]; omega] at h1; exact h1

theorem row_no {D : DevS} {i : Int} (h : regB i = false) : D.row i = [] := by
  have := regB_f h
  unfold DevS.row; rw [if_neg this.1, if_neg this.2]
theorem row_0 (D : DevS) : D.row 0 = D.r0 := rfl
theorem row_1 (D : DevS) : D.row 1 = D.r1 := rfl
theorem Row.form {W : World} {v : Value} {l : List Nat} (h : Row W v l) : ∃ a c, v = .slice a l.length c ∧ l.length ≤ c := by
  rcases h.2 with ⟨rfl, e⟩ | ⟨g, cap, cur, e, _, _, hn, _⟩
  · exact ⟨none, 0, by rw [e], by omega⟩
  · exact ⟨_, _, e, hn⟩
theorem DevS.Ok.row {D : DevS} (h : D.Ok) (i : Int) : (D.row i).length ≤ D.cap ∧ ∀ x ∈ D.row i, x < 256 := by
  unfold DevS.row
  split
  · exact ⟨h.l0, h.b0⟩
  · split
    · exact ⟨h.l1, h.b1⟩
    · exact ⟨Nat.zero_le _, fun x hx => by cases hx⟩

set_option maxHeartbeats 400000 in
theorem len_any {own : List Nat} {b : Nat} {D : DevS} {v0 v1 : Value} (i : Int) (w : World) (h : Dev own w b D v0 v1) :
    Calls Tryd.prog 32 #[.pointer (some ⟨b, 0, none⟩), .int .i64 i] w fun e w' => e = .returned (.int .i64 (D.row i).length) ∧ w = w' := by
  have c1 := h.blk.c1
  have c2 := h.blk.c2
  obtain ⟨a0, k0, rfl, _⟩ := h.r0.form
  obtain ⟨a1, k1, rfl, _⟩ := h.r1.form
  have l0 := h.ok.l0
  have l1 := h.ok.l1
  have lc := h.ok.cap
  clear h
  cases hr : regB i with
  | false =>
    rw [row_no hr]
    clear c1 c2
    go_enter Tryd.func32, Tryd.ntmps32
    go_wp2_with (go_at_call 21; refine (dhas_any _ _ _).mono ?_; rintro e w' ⟨rfl, rfl⟩)
    go_ret
    exact ⟨rfl, rfl⟩
  | true =>
    have HH := Lib.hid (fun p w => dhas_any p i w)
    rw [hr] at HH
    rcases regB_t hr with rfl | rfl
    · rw [row_0]
      clear hr
      obtain ⟨n, hn⟩ : ∃ n, D.r0.length = n := ⟨_, rfl⟩
      rw [hn] at c1 ⊢
      clear hn c2
      go_enter Tryd.func32, Tryd.ntmps32
      go_wp2_with (go_at_call 21; refine (HH.out _ _).mono ?_; rintro e w' ⟨rfl, rfl⟩)
      go_ret
      exact ⟨rfl, rfl⟩
    · rw [row_1]
      clear hr
      obtain ⟨n, hn⟩ : ∃ n, D.r1.length = n := ⟨_, rfl⟩
      rw [hn] at c2 ⊢
      clear hn c1
      go_enter Tryd.func32, Tryd.ntmps32
      go_wp2_with (go_at_call 21; refine (HH.out _ _).mono ?_; rintro e w' ⟨rfl, rfl⟩)
      go_ret
      exact ⟨rfl, rfl⟩

set_option maxHeartbeats 400000 in
theorem bytes_any {own : List Nat} {b : Nat} {D : DevS} {v0 v1 : Value} (i : Int) (w : World) (h : Dev own w b D v0 v1) :
    Calls Tryd.prog 11 #[.pointer (some ⟨b, 0, none⟩), .int .i64 i] w fun e w' => ∃ v, e = .returned v ∧ w'.ownsRow w.heap.size 5 1 v (D.row i).length ((D.row i).map encY) ∧ Below w.heap.size w w' := by
  have c1 := h.blk.c1
  have c2 := h.blk.c2
  have HS0 := Lib.hid h.r0.sl
  have HS1 := Lib.hid h.r1.sl
  obtain ⟨a0, k0, rfl, _⟩ := h.r0.form
  obtain ⟨a1, k1, rfl, _⟩ := h.r1.form
  have l0 := h.ok.l0
  have l1 := h.ok.l1
  have lc := h.ok.cap
  clear h
  cases hr : regB i with
  | false =>
    rw [row_no hr]
    clear c1 c2
    go_enter Tryd.func11, Tryd.ntmps11
    go_wp2_with (go_at_call 21; refine (dhas_any _ _ _).mono ?_; rintro e w' ⟨rfl, rfl⟩)
    go_ret
    exact ⟨_, rfl, World.ownsRow_nil _ _ _ _, Below.refl _ _⟩
  | true =>
    have HH := Lib.hid (fun p w => dhas_any p i w)
    rw [hr] at HH
    rcases regB_t hr with rfl | rfl
    · rw [row_0]
      clear hr
      have HC := Lib.hid (copied_any _ _ _ D.r0 (by omega) w HS0.out)
      obtain ⟨n, hn⟩ : ∃ n, D.r0.length = n := ⟨_, rfl⟩
      rw [hn] at c1 HC ⊢
      clear hn c2
      go_enter Tryd.func11, Tryd.ntmps11
      go_wp2_with (first | (go_at_call 21; refine (HH.out _ _).mono ?_; rintro e w' ⟨rfl, rfl⟩) | (go_at_call 22; refine HC.out.mono ?_; rintro e w1 ⟨g, rfl, hown, hb⟩; have HO := Lib.hid hown; clear hown))
      go_ret
      exact ⟨_, rfl, HO.out, hb⟩
    · rw [row_1]
      clear hr
      have HC := Lib.hid (copied_any _ _ _ D.r1 (by omega) w HS1.out)
      obtain ⟨n, hn⟩ : ∃ n, D.r1.length = n := ⟨_, rfl⟩
      rw [hn] at c2 HC ⊢
      clear hn c1
      go_enter Tryd.func11, Tryd.ntmps11
      go_wp2_with (first | (go_at_call 21; refine (HH.out _ _).mono ?_; rintro e w' ⟨rfl, rfl⟩) | (go_at_call 22; refine HC.out.mono ?_; rintro e w1 ⟨g, rfl, hown, hb⟩; have HO := Lib.hid hown; clear hown))
      go_ret
      exact ⟨_, rfl, HO.out, hb⟩
end Go.Proofs.YtocmfdahnekboaaDoor

/- Load of package device. -/
namespace Go.Proofs.YtocmfdahnekboaaDoor
open Go.RowKit

/-- What stands in a slice does not lie among a device's own blocks. -/
def Off (own : List Nat) (sv : Value) : Prop := ∀ ad n c, sv = .slice (some ad) n c → 0 < n → ad.block ∉ own
theorem Sl.but {own : List Nat} {W W' : World} {sv : Value} {l : List Nat} (h : Sl encY W.heap.size W sv l) (hb : But own W W') (ho : Off own sv) : Sl encY W'.heap.size W' sv l := by
  rcases h with h | ⟨b, off, cap, e, hlt, hcap, hc⟩
  · exact .inl h
  · rcases Nat.eq_zero_or_pos l.length with h0 | h0
    · rw [e, h0]
      obtain rfl := List.eq_nil_of_length_eq_zero h0
      exact .inl ⟨rfl, _, _, rfl, fun h => by cases h⟩
    · exact .inr ⟨b, off, cap, e, Nat.lt_of_lt_of_le hlt hb.size, hcap, fun j x hj => (World.cell?_of_block (hb.block b hlt (ho _ _ _ e h0))).trans (hc j x hj)⟩
theorem Off.cut {own : List Nat} {a : Option Addr} {n c k d : Nat} (h : Off own (.slice a n c)) (hk : k ≤ n) : Off own (.slice a k d) := fun ad m c' e h0 => by
  cases e; exact h ad n c rfl (by omega)
theorem Off.more {own own' : List Nat} {a : Option Addr} {n c : Nat} {W : World} (h : Off own (.slice a n c)) (hS : ∃ l, Sl encY W.heap.size W (.slice a n c) l) (hs : ∀ k ∈ own', k ∈ own ∨ W.heap.size ≤ k) : Off own' (.slice a n c) := fun ad m c' e h0 hk => by
  obtain ⟨l, hS⟩ := hS
  cases e
  rcases hs _ hk with h1 | h1
  · exact h ad n c rfl h0 h1
  · rcases hS with ⟨rfl, a', c', e, _⟩ | ⟨b, off, cap, e, hlt, _⟩
    · cases e; omega
    · cases e; simp at h1; omega
/-- A device came to D'. -/
def DevTo (own : List Nat) (w : World) (b : Nat) (D' : DevS) (w' : World) : Prop :=
  ∃ own' v0' v1', Dev own' w' b D' v0' v1' ∧ But own w w' ∧ ∀ k ∈ own', k ∈ own ∨ w.heap.size ≤ k
theorem Dev.same {own : List Nat} {w w' : World} {b : Nat} {D : DevS} {v0 v1 : Value} (h : Dev own w b D v0 v1) (hb : Below w.heap.size w w') : DevTo own w b D w' := ⟨own, v0, v1, h.below hb, But.of_below hb, fun _ hk => .inl hk⟩
theorem Row.base {W : World} {base : Nat} {v : Value} {l : List Nat} (h : W.ownsRow base 5 1 v l.length (l.map encY)) : Row W v l := by
  obtain ⟨h1, h2⟩ := h
  refine ⟨h1, ?_⟩
  rcases h2 with h2 | ⟨g, cap, cur, hv, hg, r⟩
  · exact .inl h2
  · exact .inr ⟨g, cap, cur, hv, Nat.zero_le _, r⟩

theorem Dev.set0 {own own' : List Nat} {W : World} {b : Nat} {D : DevS} {v0 v1 v : Value} {l : List Nat} (h : Dev own W b D v0 v1) (hv : Row W v l) (hs : ∀ k ∈ own, k ∈ own') (hlt : ∀ k ∈ own', k < W.heap.size) (hg : ∀ g, v.ownBlock = some g → g ∈ own' ∧ v1.ownBlock ≠ some g)
    (hl : l.length ≤ D.cap) (hb : ∀ x ∈ l, x < 256) : Dev own' (W.setCell ⟨b, 1, none⟩ v) b { D with r0 := l } v v1 := by
  have hbut : But [b] W (W.setCell ⟨b, 1, none⟩ v) := (But.refl _ _).set (by simp) _
  refine ⟨h.blk.set_r0 v, ?_, ?_, hs b h.bo, ?_, ?_, fun k hk => by have := hlt k hk; simpa [World.setCell] using this, ⟨h.ok.cap, ?_, ?_, ?_, ?_, h.ok.lf, h.ok.tn⟩⟩
  · exact hv.but hbut (fun g hg hk => by simp at hk; subst hk; exact hv.ne h.blk hg)
  · exact h.r1.but hbut (fun g hg hk => by simp at hk; subst hk; exact h.r1.ne h.blk hg)
  · exact hg
  · exact fun g hg => hs g (h.o1 g hg)
  · exact hl
  · exact h.ok.l1
  · exact hb
  · exact h.ok.b1


theorem Dev.set1 {own own' : List Nat} {W : World} {b : Nat} {D : DevS} {v0 v1 v : Value} {l : List Nat} (h : Dev own W b D v0 v1) (hv : Row W v l) (hs : ∀ k ∈ own, k ∈ own') (hlt : ∀ k ∈ own', k < W.heap.size) (hg : ∀ g, v.ownBlock = some g → g ∈ own' ∧ v0.ownBlock ≠ some g)
    (hl : l.length ≤ D.cap) (hb : ∀ x ∈ l, x < 256) : Dev own' (W.setCell ⟨b, 2, none⟩ v) b { D with r1 := l } v0 v := by
  have hbut : But [b] W (W.setCell ⟨b, 2, none⟩ v) := (But.refl _ _).set (by simp) _
  refine ⟨h.blk.set_r1 v, ?_, ?_, hs b h.bo, ?_, ?_, fun k hk => by have := hlt k hk; simpa [World.setCell] using this, ⟨h.ok.cap, ?_, ?_, ?_, ?_, h.ok.lf, h.ok.tn⟩⟩
  · exact h.r0.but hbut (fun g hg hk => by simp at hk; subst hk; exact h.r0.ne h.blk hg)
  · exact hv.but hbut (fun g hg hk => by simp at hk; subst hk; exact hv.ne h.blk hg)
  · exact fun g hg' => ⟨hs g (h.o0 g hg').1, fun e => (hg g e).2 hg'⟩
  · exact fun g e => (hg g e).1
  · exact h.ok.l0
  · exact hl
  · exact h.ok.b0
  · exact hb


theorem put_0 (D : DevS) (l : List Nat) : D.put 0 l = { D with r0 := l } := rfl
set_option maxRecDepth 100000 in
set_option maxHeartbeats 2000000 in
theorem load0_any {own : List Nat} {b : Nat} {D : DevS} {v0 v1 : Value} (a : Option Addr) (n c : Nat) (l : List Nat) (hl : Bytes l) (w : World) (h : Dev own w b D v0 v1) (hS : Sl encY w.heap.size w (.slice a n c) l) :
    Calls Tryd.prog 6 #[.pointer (some ⟨b, 0, none⟩), .int .i64 0, .slice a n c] w fun e w' => e = .returned (.tuple #[]) ∧ DevTo own w b (D.put 0 (l.take (min l.length D.cap))) w' := by
  have c0 := h.blk.c0
  have hcap := h.ok.cap
  obtain rfl := hS.len
  have hcc := hS.capb
  have HH := Lib.hid (fun p w => dhas_any p 0 w)
  rw [show regB 0 = true from rfl] at HH
  obtain ⟨k, hk⟩ : ∃ k, min l.length D.cap = k := ⟨_, rfl⟩
  rw [hk]
  have hkl : k ≤ l.length := by omega
  have HC := Lib.hid (fun (W : World) (hb : Below w.heap.size w W) => copied_any a k c (l.take k) (by have := hl.1; simp; omega) W (((hS.take hkl).below hb).mono hb.size))
  have htl : (l.take k).length = k := by simp; omega
  rw [htl] at HC
  have HD := Lib.hid h
  have HTL := Lib.hid htl
  have HB : Hid (∀ x ∈ l.take k, x < 256) := Lib.hid fun x hx => hl.2 x (List.mem_of_mem_take hx)
  have hlt := h.blk.lt
  have hcf := h.blk.frozen 1
  obtain ⟨vo, hvo⟩ : ∃ vo, w.cell? ⟨b, 1, none⟩ = some vo := ⟨_, h.blk.c1⟩
  obtain ⟨n, hn⟩ : ∃ n, l.length = n := ⟨_, rfl⟩
  obtain ⟨cp, hcp⟩ : ∃ cp, D.cap = cp := ⟨_, rfl⟩
  have hl1 := hl.1
  rw [hn] at hk hkl hcc hl1 ⊢
  rw [hcp] at hk hcap c0
  have hkc : k ≤ cp := by omega
  have hfin : ∀ (w1 : World) (g : Nat), w1.ownsRow w.heap.size 5 1 (.slice (some ⟨g, 0, none⟩) k k) k ((l.take k).map encY) → Below w.heap.size w w1 → DevTo own w b (D.put 0 (l.take k)) (w1.setCell ⟨b, 1, none⟩ (.slice (some ⟨g, 0, none⟩) k k)) := by
    intro w1 g hown hb
    have hd := HD.out.below hb
    have hrow : Row w1 (.slice (some ⟨g, 0, none⟩) k k) (l.take k) := Row.base (by rw [HTL.out]; exact hown)
    have hgw : w.heap.size ≤ g := (World.ownsRow.lt hown g rfl).1
    have hglt : g < w1.heap.size := (World.ownsRow.lt hown g rfl).2
    refine ⟨g :: own, _, _, hd.set0 hrow (fun k hk => by simp [hk]) (fun k hk => ?_) (fun g' hg' => ?_) (by rw [HTL.out, hcp]; exact hkc) HB.out, ?_, ?_⟩
    · rcases List.mem_cons.1 hk with rfl | hk
      · exact hglt
      · exact hd.lt k hk
    · obtain rfl : g = g' := by simpa [Value.ownBlock] using hg'
      exact ⟨by simp, fun e => by have := HD.out.r1.lt g e; omega⟩
    · exact (But.of_below hb).set (HD.out.bo) _
    · intro k hk
      rcases List.mem_cons.1 hk with rfl | hk
      · exact .inr hgw
      · exact .inl hk
  have HF := Lib.hid hfin
  by_cases hle : (n : Int) ≤ (cp : Int)
  · obtain rfl : k = n := by omega
    clear hfin hk hcp HTL HB h hS hl htl HD
    go_enter Tryd.func6, Tryd.ntmps6
    go_wp2_with (go_at_call 21; refine (HH.out _ _).mono ?_; rintro e w' ⟨rfl, rfl⟩)
    go_region_with (go_at_call 22; refine (HC.out _ (Below.refl _ _).drew).mono ?_; rintro e w1 ⟨g, rfl, hown, hb1⟩; have hb2 : Below w.heap.size w w1 := ⟨hb1.os, hb1.tape, hb1.output, hb1.size, hb1.block⟩; have hcw : w1.cell? ⟨b, 1, none⟩ = some vo := (hb2.cell (p := ⟨b, 1, none⟩) hlt).trans hvo; have hfw : w1.frozen? ⟨b, 1, none⟩ = false := (hb2.frozen (p := ⟨b, 1, none⟩) hlt).trans hcf; have HOW := Lib.hid hown; clear hown hb1)
    all_goals go_wp2
    all_goals go_end0
    all_goals exact ⟨rfl, HF.out _ _ HOW.out hb2⟩
  · obtain rfl : k = cp := by omega
    clear hfin hk hn HTL HB h hS hl htl HD
    go_enter Tryd.func6, Tryd.ntmps6
    go_wp2_with (go_at_call 21; refine (HH.out _ _).mono ?_; rintro e w' ⟨rfl, rfl⟩)
    go_region_with (go_at_call 22; refine (HC.out _ (Below.refl _ _).drew).mono ?_; rintro e w1 ⟨g, rfl, hown, hb1⟩; have hb2 : Below w.heap.size w w1 := ⟨hb1.os, hb1.tape, hb1.output, hb1.size, hb1.block⟩; have hcw : w1.cell? ⟨b, 1, none⟩ = some vo := (hb2.cell (p := ⟨b, 1, none⟩) hlt).trans hvo; have hfw : w1.frozen? ⟨b, 1, none⟩ = false := (hb2.frozen (p := ⟨b, 1, none⟩) hlt).trans hcf; have HOW := Lib.hid hown; clear hown hb1)
    all_goals go_wp2
    all_goals go_end0
    all_goals exact ⟨rfl, HF.out _ _ HOW.out hb2⟩

theorem put_1 (D : DevS) (l : List Nat) : D.put 1 l = { D with r1 := l } := rfl
set_option maxRecDepth 100000 in
set_option maxHeartbeats 2000000 in
theorem load1_any {own : List Nat} {b : Nat} {D : DevS} {v0 v1 : Value} (a : Option Addr) (n c : Nat) (l : List Nat) (hl : Bytes l) (w : World) (h : Dev own w b D v0 v1) (hS : Sl encY w.heap.size w (.slice a n c) l) :
    Calls Tryd.prog 6 #[.pointer (some ⟨b, 0, none⟩), .int .i64 1, .slice a n c] w fun e w' => e = .returned (.tuple #[]) ∧ DevTo own w b (D.put 1 (l.take (min l.length D.cap))) w' := by
  have c0 := h.blk.c0
  have hcap := h.ok.cap
  obtain rfl := hS.len
  have hcc := hS.capb
  have HH := Lib.hid (fun p w => dhas_any p 1 w)
  rw [show regB 1 = true from rfl] at HH
  obtain ⟨k, hk⟩ : ∃ k, min l.length D.cap = k := ⟨_, rfl⟩
  rw [hk]
  have hkl : k ≤ l.length := by omega
  have HC := Lib.hid (fun (W : World) (hb : Below w.heap.size w W) => copied_any a k c (l.take k) (by have := hl.1; simp; omega) W (((hS.take hkl).below hb).mono hb.size))
  have htl : (l.take k).length = k := by simp; omega
  rw [htl] at HC
  have HD := Lib.hid h
  have HTL := Lib.hid htl
  have HB : Hid (∀ x ∈ l.take k, x < 256) := Lib.hid fun x hx => hl.2 x (List.mem_of_mem_take hx)
  have hlt := h.blk.lt
  have hcf := h.blk.frozen 2
  obtain ⟨vo, hvo⟩ : ∃ vo, w.cell? ⟨b, 2, none⟩ = some vo := ⟨_, h.blk.c2⟩
  obtain ⟨n, hn⟩ : ∃ n, l.length = n := ⟨_, rfl⟩
  obtain ⟨cp, hcp⟩ : ∃ cp, D.cap = cp := ⟨_, rfl⟩
  have hl1 := hl.1
  rw [hn] at hk hkl hcc hl1 ⊢
  rw [hcp] at hk hcap c0
  have hkc : k ≤ cp := by omega
  have hfin : ∀ (w1 : World) (g : Nat), w1.ownsRow w.heap.size 5 1 (.slice (some ⟨g, 0, none⟩) k k) k ((l.take k).map encY) → Below w.heap.size w w1 → DevTo own w b (D.put 1 (l.take k)) (w1.setCell ⟨b, 2, none⟩ (.slice (some ⟨g, 0, none⟩) k k)) := by
    intro w1 g hown hb
    have hd := HD.out.below hb
    have hrow : Row w1 (.slice (some ⟨g, 0, none⟩) k k) (l.take k) := Row.base (by rw [HTL.out]; exact hown)
    have hgw : w.heap.size ≤ g := (World.ownsRow.lt hown g rfl).1
    have hglt : g < w1.heap.size := (World.ownsRow.lt hown g rfl).2
    refine ⟨g :: own, _, _, hd.set1 hrow (fun k hk => by simp [hk]) (fun k hk => ?_) (fun g' hg' => ?_) (by rw [HTL.out, hcp]; exact hkc) HB.out, ?_, ?_⟩
    · rcases List.mem_cons.1 hk with rfl | hk
      · exact hglt
      · exact hd.lt k hk
    · obtain rfl : g = g' := by simpa [Value.ownBlock] using hg'
      exact ⟨by simp, fun e => by have := HD.out.r0.lt g e; omega⟩
    · exact (But.of_below hb).set (HD.out.bo) _
    · intro k hk
      rcases List.mem_cons.1 hk with rfl | hk
      · exact .inr hgw
      · exact .inl hk
  have HF := Lib.hid hfin
  by_cases hle : (n : Int) ≤ (cp : Int)
  · obtain rfl : k = n := by omega
    clear hfin hk hcp HTL HB h hS hl htl HD
    go_enter Tryd.func6, Tryd.ntmps6
    go_wp2_with (go_at_call 21; refine (HH.out _ _).mono ?_; rintro e w' ⟨rfl, rfl⟩)
    go_region_with (go_at_call 22; refine (HC.out _ (Below.refl _ _).drew).mono ?_; rintro e w1 ⟨g, rfl, hown, hb1⟩; have hb2 : Below w.heap.size w w1 := ⟨hb1.os, hb1.tape, hb1.output, hb1.size, hb1.block⟩; have hcw : w1.cell? ⟨b, 2, none⟩ = some vo := (hb2.cell (p := ⟨b, 2, none⟩) hlt).trans hvo; have hfw : w1.frozen? ⟨b, 2, none⟩ = false := (hb2.frozen (p := ⟨b, 2, none⟩) hlt).trans hcf; have HOW := Lib.hid hown; clear hown hb1)
    all_goals go_wp2
    all_goals go_end0
    all_goals exact ⟨rfl, HF.out _ _ HOW.out hb2⟩
  · obtain rfl : k = cp := by omega
    clear hfin hk hn HTL HB h hS hl htl HD
    go_enter Tryd.func6, Tryd.ntmps6
    go_wp2_with (go_at_call 21; refine (HH.out _ _).mono ?_; rintro e w' ⟨rfl, rfl⟩)
    go_region_with (go_at_call 22; refine (HC.out _ (Below.refl _ _).drew).mono ?_; rintro e w1 ⟨g, rfl, hown, hb1⟩; have hb2 : Below w.heap.size w w1 := ⟨hb1.os, hb1.tape, hb1.output, hb1.size, hb1.block⟩; have hcw : w1.cell? ⟨b, 2, none⟩ = some vo := (hb2.cell (p := ⟨b, 2, none⟩) hlt).trans hvo; have hfw : w1.frozen? ⟨b, 2, none⟩ = false := (hb2.frozen (p := ⟨b, 2, none⟩) hlt).trans hcf; have HOW := Lib.hid hown; clear hown hb1)
    all_goals go_wp2
    all_goals go_end0
    all_goals exact ⟨rfl, HF.out _ _ HOW.out hb2⟩

set_option maxHeartbeats 400000 in
theorem loadn_any {own : List Nat} {b : Nat} {D : DevS} {v0 v1 : Value} (i : Int) (hi : regB i = false) (sv : Value) (w : World) (h : Dev own w b D v0 v1) :
    Calls Tryd.prog 6 #[.pointer (some ⟨b, 0, none⟩), .int .i64 i, sv] w fun e w' => e = .returned (.tuple #[]) ∧ DevTo own w b D w' := by
  have HH := Lib.hid (fun p w => dhas_any p i w)
  rw [hi] at HH
  have HD := Lib.hid (h.same (Below.refl _ _))
  clear h hi
  go_enter Tryd.func6, Tryd.ntmps6
  go_wp2_with (go_at_call 21; refine (HH.out _ _).mono ?_; rintro e w' ⟨rfl, rfl⟩)
  go_end0
  exact ⟨rfl, HD.out⟩
end Go.Proofs.YtocmfdahnekboaaDoor

/- Truncate of package device. -/
namespace Go.Proofs.YtocmfdahnekboaaDoor
open Go.RowKit

theorem Row.cut {W : World} {a : Option Addr} {n c k : Nat} {l : List Nat} (h : Row W (.slice a n c) l) (hk : k ≤ n) : Row W (.slice a k c) (l.take k) := by
  obtain rfl := h.sl.len
  have hlen : (l.take k).length = k := by simp; omega
  rcases h.2 with ⟨e, h0⟩ | ⟨g, cap, cur, e, hg, hh, hn, hm, hs, ht⟩
  · simp only [Value.slice.injEq] at e
    obtain ⟨rfl, e1, rfl⟩ := e
    obtain rfl : k = 0 := by omega
    exact ⟨by simp, .inl ⟨rfl, by simp⟩⟩
  · simp only [Value.slice.injEq] at e
    obtain ⟨rfl, _, rfl⟩ := e
    refine ⟨by simp, .inr ⟨g, c, cur, by rw [hlen], hg, hh, by rw [hlen]; omega, hm, hs, ?_⟩⟩
    rw [hlen, List.map_take, ← ht, List.take_take]
    congr 1; omega
theorem own_cut (a : Option Addr) (n c k : Nat) : (Value.slice a k c).ownBlock = (Value.slice a n c).ownBlock := by cases a <;> rfl
theorem Dev.drew {own : List Nat} {W : World} {b : Nat} {D : DevS} {v0 v1 : Value} (h : Dev own W b D v0 v1) : Dev own W.drew b D v0 v1 := h.but (own2 := []) (But.refl _ _).drew fun _ _ hk => by cases hk
/-- A device behind so many bytes turned. -/
def DevS.turn (D : DevS) (n : Nat) : DevS := { D with down := D.down || decide (D.left < n), left := D.left - doneN n D.left, turned := turnedN D.turned (doneN n D.left) }
theorem turn_ok {D : DevS} (h : D.Ok) (n : Nat) : (D.turn n).Ok := ⟨h.cap, h.l0, h.l1, h.b0, h.b1, by show D.left - _ ≤ _; have := h.lf; omega, Nat.min_le_right _ _⟩
theorem Dev.turned {own : List Nat} {W W' : World} {b : Nat} {D : DevS} {v0 v1 : Value} (h : Dev own W b D v0 v1) (n : Nat) (hb : But [b] W W') (hblk : DevB W' b D.cap v0 v1 (D.down || decide (D.left < n)) (D.left - doneN n D.left) (turnedN D.turned (doneN n D.left))) : Dev own W' b (D.turn n) v0 v1 :=
  h.field hb hblk rfl rfl (turn_ok h.ok n)
theorem turn_r0 (D : DevS) (n : Nat) : (D.turn n).r0 = D.r0 := rfl
theorem turn_r1 (D : DevS) (n : Nat) : (D.turn n).r1 = D.r1 := rfl
theorem turn_cap (D : DevS) (n : Nat) : (D.turn n).cap = D.cap := rfl

set_option maxRecDepth 100000 in
set_option maxHeartbeats 2000000 in
theorem trunc0_any {own : List Nat} {b : Nat} {D : DevS} {v0 v1 : Value} (n : Nat) (hn : n ≤ D.r0.length) (hd : D.down = false) (w : World) (h : Dev own w b D v0 v1) :
    Calls Tryd.prog 37 #[.pointer (some ⟨b, 0, none⟩), .int .i64 0, .int .i64 n] w fun e w' =>
      e = .returned (.int .i64 (downE (D.r0.length - n) D.left)) ∧ DevTo own w b ((D.turn (D.r0.length - n)).put 0 (D.r0.take (D.r0.length - doneN (D.r0.length - n) D.left))) w' := by
  have c3 := h.blk.c3
  rw [hd] at c3
  have hl := h.ok.l0
  have hcap := h.ok.cap
  have HH := Lib.hid (fun p w => dhas_any p 0 w)
  rw [show regB 0 = true from rfl] at HH
  obtain ⟨a, c, e0, hcc⟩ := h.r0.form
  subst e0
  have cF := h.blk.c1
  have HT := Lib.hid (fun m hm => dturn_any m hm h.ok.lf h.ok.tn w h.blk)
  have HD := Lib.hid h
  clear hd
  obtain ⟨m, hm⟩ : ∃ m, D.r0.length = m := ⟨_, rfl⟩
  have HM := Lib.hid hm
  rw [hm] at hn hl cF hcc HT HD ⊢
  obtain ⟨q, hq⟩ : ∃ q, m - n = q := ⟨_, rfl⟩
  rw [hq]
  have hqI : (m : Int) - (n : Int) = (q : Int) := by omega
  have hle : doneN q D.left ≤ q := Nat.min_le_left _ _
  have hqm : q ≤ m := by omega
  have HTQ := Lib.hid (HT.out q (by omega))
  obtain ⟨k, hk⟩ : ∃ k, doneN q D.left = k := ⟨_, rfl⟩
  rw [hk] at hle HTQ ⊢
  have hkI : (m : Int) - (k : Int) = ((m - k : Nat) : Int) := by omega
  have HFIN : Hid (∀ w1, But [b] w w1 → DevB w1 b D.cap (.slice a m c) v1 (D.down || decide (D.left < q)) (D.left - k) (turnedN D.turned k) → DevTo own w b ((D.turn q).put 0 (D.r0.take (m - k))) (w1.setCell ⟨b, 1, none⟩ (.slice a (m - k) c)).drew) := Lib.hid (by
    intro w1 hb1 hblk
    have hd1 := HD.out.turned q hb1 (by rw [hk]; exact hblk)
    have hrow : Row w1 (.slice a (m - k) c) (D.r0.take (m - k)) := Row.cut hd1.r0 (by omega)
    have hb2 : But own w w1 := hb1.more (fun x hx => by simp at hx; subst hx; exact .inl HD.out.bo)
    refine ⟨own, _, _, (hd1.set0 hrow (fun _ hk => hk) hd1.lt (fun g hg => ?_) (by rw [turn_cap, List.length_take]; omega) (fun x hx => HD.out.ok.b0 x (List.mem_of_mem_take hx))).drew, (hb2.set HD.out.bo _).drew, fun _ hk => .inl hk⟩
    rw [own_cut a m c (m - k)] at hg
    exact hd1.o0 g hg)
  have hfr := h.blk.frozen 1
  clear hq hk HT h hm HD HM
  obtain ⟨mk, hmk⟩ : ∃ mk, m - k = mk := ⟨_, rfl⟩
  rw [hmk] at hkI HFIN ⊢
  have hmk1 : mk ≤ m := by omega
  have hmk2 : mk ≤ c := by omega
  clear hmk
  go_enter Tryd.func37, Tryd.ntmps37
  go_wp2_with (first | (go_at_call 21; refine (HH.out _ _).mono ?_; rintro e w' ⟨rfl, rfl⟩) | (go_at_call 49; refine HTQ.out.mono ?_; rintro e w1 ⟨rfl, hblk, hb1, hz1⟩; have cG := hblk.c1; have fG := hblk.frozen 1; have HBK := Lib.hid hblk; have HB1 := Lib.hid hb1; clear hblk hb1 hz1))
  go_region
  all_goals go_wp2
  all_goals go_ret
  all_goals exact ⟨rfl, HFIN.out _ HB1.out HBK.out⟩

set_option maxRecDepth 100000 in
set_option maxHeartbeats 2000000 in
theorem trunc1_any {own : List Nat} {b : Nat} {D : DevS} {v0 v1 : Value} (n : Nat) (hn : n ≤ D.r1.length) (hd : D.down = false) (w : World) (h : Dev own w b D v0 v1) :
    Calls Tryd.prog 37 #[.pointer (some ⟨b, 0, none⟩), .int .i64 1, .int .i64 n] w fun e w' =>
      e = .returned (.int .i64 (downE (D.r1.length - n) D.left)) ∧ DevTo own w b ((D.turn (D.r1.length - n)).put 1 (D.r1.take (D.r1.length - doneN (D.r1.length - n) D.left))) w' := by
  have c3 := h.blk.c3
  rw [hd] at c3
  have hl := h.ok.l1
  have hcap := h.ok.cap
  have HH := Lib.hid (fun p w => dhas_any p 1 w)
  rw [show regB 1 = true from rfl] at HH
  obtain ⟨a, c, e1, hcc⟩ := h.r1.form
  subst e1
  have cF := h.blk.c2
  have HT := Lib.hid (fun m hm => dturn_any m hm h.ok.lf h.ok.tn w h.blk)
  have HD := Lib.hid h
  clear hd
  obtain ⟨m, hm⟩ : ∃ m, D.r1.length = m := ⟨_, rfl⟩
  have HM := Lib.hid hm
  rw [hm] at hn hl cF hcc HT HD ⊢
  obtain ⟨q, hq⟩ : ∃ q, m - n = q := ⟨_, rfl⟩
  rw [hq]
  have hqI : (m : Int) - (n : Int) = (q : Int) := by omega
  have hle : doneN q D.left ≤ q := Nat.min_le_left _ _
  have hqm : q ≤ m := by omega
  have HTQ := Lib.hid (HT.out q (by omega))
  obtain ⟨k, hk⟩ : ∃ k, doneN q D.left = k := ⟨_, rfl⟩
  rw [hk] at hle HTQ ⊢
  have hkI : (m : Int) - (k : Int) = ((m - k : Nat) : Int) := by omega
  have HFIN : Hid (∀ w1, But [b] w w1 → DevB w1 b D.cap v0 (.slice a m c) (D.down || decide (D.left < q)) (D.left - k) (turnedN D.turned k) → DevTo own w b ((D.turn q).put 1 (D.r1.take (m - k))) (w1.setCell ⟨b, 2, none⟩ (.slice a (m - k) c)).drew) := Lib.hid (by
    intro w1 hb1 hblk
    have hd1 := HD.out.turned q hb1 (by rw [hk]; exact hblk)
    have hrow : Row w1 (.slice a (m - k) c) (D.r1.take (m - k)) := Row.cut hd1.r1 (by omega)
    have hb2 : But own w w1 := hb1.more (fun x hx => by simp at hx; subst hx; exact .inl HD.out.bo)
    refine ⟨own, _, _, (hd1.set1 hrow (fun _ hk => hk) hd1.lt (fun g hg => ?_) (by rw [turn_cap, List.length_take]; omega) (fun x hx => HD.out.ok.b1 x (List.mem_of_mem_take hx))).drew, (hb2.set HD.out.bo _).drew, fun _ hk => .inl hk⟩
    rw [own_cut a m c (m - k)] at hg
    exact ⟨hd1.o1 g hg, fun e => (hd1.o0 g e).2 hg⟩)
  have hfr := h.blk.frozen 2
  clear hq hk HT h hm HD HM
  obtain ⟨mk, hmk⟩ : ∃ mk, m - k = mk := ⟨_, rfl⟩
  rw [hmk] at hkI HFIN ⊢
  have hmk1 : mk ≤ m := by omega
  have hmk2 : mk ≤ c := by omega
  clear hmk
  go_enter Tryd.func37, Tryd.ntmps37
  go_wp2_with (first | (go_at_call 21; refine (HH.out _ _).mono ?_; rintro e w' ⟨rfl, rfl⟩) | (go_at_call 49; refine HTQ.out.mono ?_; rintro e w1 ⟨rfl, hblk, hb1, hz1⟩; have cG := hblk.c2; have fG := hblk.frozen 2; have HBK := Lib.hid hblk; have HB1 := Lib.hid hb1; clear hblk hb1 hz1))
  go_region
  all_goals go_wp2
  all_goals go_ret
  all_goals exact ⟨rfl, HFIN.out _ HB1.out HBK.out⟩
end Go.Proofs.YtocmfdahnekboaaDoor

/- Append of package device. -/
namespace Go.Proofs.YtocmfdahnekboaaDoor
open Go.RowKit
attribute [-go_sem] Builtin.append_

/-- An append of whatever bytes to a row, as an equation. -/
theorem run_append_bytes (W : World) (v : Value) (n : Nat) (xs : List Value) (hown : W.ownsRow 0 5 1 v n xs) (B : Nat) (sv : Value) (l : List Nat) (hS : Sl encY B W sv l) (hm : n + l.length ≤ 1073741824) :
    ∃ v' w', (Builtin.append_ #[22, 22] 22 #[v, sv]).run Tryd.prog W = .ok v' w' ∧ w'.ownsRow 0 5 1 v' (n + l.length) (xs ++ l.map encY) ∧ W.grownBy w' v.ownBlock ∧ (v'.ownBlock = v.ownBlock ∨ v'.ownBlock = some W.heap.size) := by
  obtain ⟨i0, hi, hz0, hz1, hz2⟩ := info_parts info8
  rcases hS with ⟨rfl, ao, c0, rfl, hao⟩ | ⟨b, off, cap, rfl, hb, hcap, hc⟩
  · cases ao with
    | some ad =>
      obtain ⟨v', w', h1, h2, h3, _, h5⟩ := run_append_own_at (P := Tryd.prog) W 0 22 22 5 i0 (.int .u8 0) 1 1 Tryd.underlying22 hi hz0 hz1 hz2 rfl (by decide) v n xs hown ad 0 c0 [] rfl (fun j u hu => by simp at hu) (fun u hu => by cases hu) (by unfold maxLen; simp at hm; omega) (by simp at hm; omega) (Nat.zero_le _)
      exact ⟨v', w', h1, h2, h3, h5⟩
    | none =>
      obtain rfl := hao rfl
      exact ⟨v, W, run_append_owned_none (P := Tryd.prog) (w := W) 0 22 22 5 i0 1 Tryd.underlying22 hi v n xs hown, by simpa using hown, World.grownBy.refl _ _, .inl rfl⟩
  · obtain ⟨v', w', h1, h2, h3, _, h5⟩ := run_append_own_at (P := Tryd.prog) W 0 22 22 5 i0 (.int .u8 0) 1 1 Tryd.underlying22 hi hz0 hz1 hz2 rfl (by decide) v n xs hown ⟨b, off, none⟩ l.length cap (l.map encY) (by simp) (fun j u hu => by
      rw [List.getElem?_map] at hu
      cases hj : l[j]? with
      | none => rw [hj] at hu; cases hu
      | some y => rw [hj] at hu; cases hu; rw [show (⟨b, off, none⟩ : Addr).add j = ⟨b, off + j, none⟩ from by unfold Addr.add; split <;> simp_all]; exact hc j y hj) (encY_one l) (by unfold maxLen; omega) (by omega) (Nat.zero_le _)
    exact ⟨v', w', h1, h2, h3, h5⟩
theorem But.grown {own : List Nat} {A B C : World} {row : Option Nat} (h : But own A B) (hg : B.grownBy C row) (hr : ∀ g, row = some g → g ∈ own) : But own A C :=
  ⟨hg.os.trans h.os, hg.tape.trans h.tape, hg.output.trans h.output, Nat.le_trans h.size hg.size, fun k hk hn => (hg.block k (Nat.lt_of_lt_of_le hk h.size) (fun e => hn (hr k e.symm))).trans (h.block k hk hn)⟩
theorem turn_b0 (D : DevS) (n : Nat) : (D.turn n).r0 = D.r0 := rfl
theorem Row.grown {W W' : World} {v : Value} {l : List Nat} {row : Option Nat} (h : Row W v l) (hg : W.grownBy W' row) (hn : ∀ g, v.ownBlock = some g → row ≠ some g) : Row W' v l := by
  obtain ⟨h1, h2⟩ := h
  refine ⟨h1, ?_⟩
  rcases h2 with h2 | ⟨g, cap, cur, hv, hg0, hh, r⟩
  · exact .inl h2
  · exact .inr ⟨g, cap, cur, hv, hg0, (hg.block g (Array.getElem?_eq_some_iff.1 hh).1 (fun e => hn g (by rw [hv]; rfl) e.symm)).trans hh, r⟩

/-- A region's row was appended to, its field set anew. -/
theorem Dev.grow0 {own : List Nat} {W W' : World} {b : Nat} {D : DevS} {v0 v1 v : Value} {l : List Nat} (h : Dev own W b D v0 v1) (hown : W'.ownsRow 0 5 1 v (D.r0.length + l.length) (D.r0.map encY ++ l.map encY)) (hg : W.grownBy W' v0.ownBlock) (hat : v.ownBlock = v0.ownBlock ∨ v.ownBlock = some W.heap.size)
    (hl : D.r0.length + l.length ≤ D.cap) (hb : ∀ x ∈ l, x < 256) : DevTo own W b (D.put 0 (D.r0 ++ l)) (W'.setCell ⟨b, 1, none⟩ v) := by
  have hbut : But own W W' := (But.refl _ _).grown hg (fun g e => (h.o0 g e).1)
  have hrow : Row W' v (D.r0 ++ l) := by
    unfold Row
    rw [List.length_append, List.map_append]; exact hown
  have hne : v0.ownBlock ≠ some b := h.r0.ne h.blk
  have hblk : DevB W' b D.cap v0 v1 D.down D.left D.turned := (hg.block b h.blk.lt (fun e => hne e.symm)).trans h.blk
  have hlt : ∀ g, v.ownBlock = some g → g < W'.heap.size := hrow.lt
  have hother : Row W' v1 D.r1 := h.r1.grown hg (fun g e e2 => (h.o0 g e2).2 e)
  have ownlt : ∀ k ∈ own, k < W'.heap.size := fun k hk => Nat.lt_of_lt_of_le (h.lt k hk) hg.size
  have hlen : (D.r0 ++ l).length ≤ D.cap := by rw [List.length_append]; exact hl
  have hby : ∀ x ∈ D.r0 ++ l, x < 256 := fun x hx => (List.mem_append.1 hx).elim (h.ok.b0 x) (hb x)
  have hset : But [b] W' (W'.setCell ⟨b, 1, none⟩ v) := (But.refl _ _).set (by simp) _
  have hrow2 : Row (W'.setCell ⟨b, 1, none⟩ v) v (D.r0 ++ l) := hrow.but hset (fun g hg' hk => by simp at hk; subst hk; exact hrow.ne hblk hg')
  have hother2 : Row (W'.setCell ⟨b, 1, none⟩ v) v1 D.r1 := hother.but hset (fun g hg' hk => by simp at hk; subst hk; exact hother.ne hblk hg')
  refine ⟨v.ownBlock.toList ++ own, v, v1, ⟨hblk.set_r0 v, hrow2, hother2, by simp [h.bo], ?_, ?_, fun k hk => ?_, ⟨h.ok.cap, hlen, h.ok.l1, hby, h.ok.b1, h.ok.lf, h.ok.tn⟩⟩, hbut.set h.bo _, fun k hk => ?_⟩
  · intro g hg'
    refine ⟨by simp [hg'], fun e => ?_⟩
    rcases hat with e1 | e1
    · rw [hg'] at e1; exact (h.o0 g e1.symm).2 e
    · rw [hg'] at e1; cases e1; exact absurd (h.r1.lt _ e) (by omega)
  · intro g hg'; simp [h.o1 g hg']
  · have hz : (W'.setCell ⟨b, 1, none⟩ v).heap.size = W'.heap.size := by simp [World.setCell]
    rw [hz]
    rcases List.mem_append.1 hk with hk | hk
    · exact hlt k (by simpa using hk)
    · exact ownlt k hk
  · rcases List.mem_append.1 hk with hk | hk
    · have hk' : v.ownBlock = some k := by simpa using hk
      rcases hat with e | e
      · rw [hk'] at e; exact .inl ((h.o0 k e.symm).1)
      · rw [hk'] at e; cases e; exact .inr (Nat.le_refl _)
    · exact .inl hk

set_option maxRecDepth 100000 in
set_option maxHeartbeats 4000000 in
theorem append0_any {own : List Nat} {b : Nat} {D : DevS} {v0 v1 : Value} (pa : Option Addr) (n c : Nat) (l : List Nat) (hlb : ∀ x ∈ l, x < 256) (hfit : l.length ≤ D.cap - D.r0.length) (hd : D.down = false) (w : World) (h : Dev own w b D v0 v1) (hS : Sl encY w.heap.size w (.slice pa n c) l) (ho : Off own (.slice pa n c)) :
    Calls Tryd.prog 33 #[.pointer (some ⟨b, 0, none⟩), .int .i64 0, .slice pa n c] w fun e w' =>
      e = .returned (.int .i64 (downE l.length D.left)) ∧ DevTo own w b ((D.turn l.length).put 0 (D.r0 ++ l.take (doneN l.length D.left))) w' := by
  have c3 := h.blk.c3
  rw [hd] at c3
  have c0 := h.blk.c0
  have hl := h.ok.l0
  have hcap := h.ok.cap
  obtain rfl := hS.len
  have hcc := hS.capb
  have HH := Lib.hid (fun p w => dhas_any p 0 w)
  rw [show regB 0 = true from rfl] at HH
  obtain ⟨a, c', e0, hcc'⟩ := h.r0.form
  subst e0
  have cF := h.blk.c1
  obtain ⟨q, hq⟩ : ∃ q, l.length = q := ⟨_, rfl⟩
  have hle : doneN q D.left ≤ q := Nat.min_le_left _ _
  have HQ := Lib.hid hq
  rw [hq] at hfit hcc ho hS ⊢
  have HT := Lib.hid (fun (nq : Nat) => dturn_any q (by omega) h.ok.lf h.ok.tn (w.drewN nq) (v0 := (.slice a D.r0.length c')) (v1 := v1) (dn := D.down) (cap := D.cap) h.blk)
  obtain ⟨k, hk⟩ : ∃ k, doneN q D.left = k := ⟨_, rfl⟩
  rw [hk] at hle HT ⊢
  have HFIN : Hid (∀ (w1 : World), But [b] w w1 → DevB w1 b D.cap (.slice a D.r0.length c') v1 (D.down || decide (D.left < q)) (D.left - k) (turnedN D.turned k) →
      ∃ (p2 : Option Addr) (n2 c2 : Nat) (w2 : World), (Builtin.append_ #[22, 22] 22 #[.slice a D.r0.length c', .slice pa k c]).run Tryd.prog w1.drew = .ok (.slice p2 n2 c2) w2 ∧ w2.cell? ⟨b, 1, none⟩ = some (.slice a D.r0.length c') ∧ w2.frozen? ⟨b, 1, none⟩ = false ∧
        DevTo own w b ((D.turn q).put 0 (D.r0 ++ l.take k)) (w2.setCell ⟨b, 1, none⟩ (.slice p2 n2 c2))) := Lib.hid (by
    intro w1 hb1 hblk
    have hd1 := h.turned q hb1 (by rw [hk]; exact hblk)
    have hd2 := hd1.drew
    have hb2 : But own w w1 := hb1.more (fun x hx => by simp at hx; subst hx; exact .inl h.bo)
    have hS1 := (hS.but hb2 ho).take (k := k) hle
    have htl : (l.take k).length = k := by rw [List.length_take]; omega
    obtain ⟨v', w2, r1, r2, r3, r4⟩ := run_append_bytes w1.drew _ _ _ hd2.r0 _ _ (l.take k) hS1 (by rw [turn_r0, htl]; omega)
    have hg := hd2.grow0 r2 r3 r4 (by rw [turn_r0, turn_cap, htl]; omega) (fun x hx => hlb x (List.mem_of_mem_take hx))
    have hne : (Value.slice a D.r0.length c').ownBlock ≠ some b := hd2.r0.ne hd2.blk
    have hblk2 : DevB w2 b D.cap (.slice a D.r0.length c') v1 (D.down || decide (D.left < q)) (D.left - k) (turnedN D.turned k) := (r3.block b hd2.blk.lt (fun e => hne e.symm)).trans hblk.drew
    obtain ⟨p2, n2, c2, rfl⟩ : ∃ p2 n2 c2, v' = .slice p2 n2 c2 := by
      rcases r2.2 with ⟨e, _⟩ | ⟨g, cap, cur, e, _⟩
      · exact ⟨_, _, _, e⟩
      · exact ⟨_, _, _, e⟩
    refine ⟨p2, n2, c2, w2, r1, hblk2.c1, hblk2.frozen 1, ?_⟩
    obtain ⟨own', v0', v1', g1, g2, g3⟩ := hg
    exact ⟨own', v0', v1', g1, hb2.drew.trans g2 (fun k hk => .inl hk), fun k hk => (g3 k hk).elim .inl (fun h4 => .inr (Nat.le_trans hb2.size h4))⟩)
  obtain ⟨m, hm⟩ : ∃ m, D.r0.length = m := ⟨_, rfl⟩
  rw [hm] at hl cF hcc' HT HFIN hfit
  have hgt : ((q : Int) > (D.cap : Int) - (m : Int)) ↔ False := by
    constructor
    · intro h; omega
    · intro h; exact h.elim
  have hdec : decide ((D.cap : Int) - (m : Int) < (q : Int)) = false := decide_eq_false (by omega)
  have hkc : k ≤ c := by omega
  clear hgt hk h hS ho hm hq hd hlb
  obtain ⟨cp, hcp⟩ : ∃ cp, D.cap = cp := ⟨_, rfl⟩
  rw [hcp] at c0 hl hfit hcap hdec
  clear hcp
  go_enter Tryd.func33, Tryd.ntmps33
  go_wp2_with (go_at_call 21; refine (HH.out _ _).mono ?_; rintro e w' ⟨rfl, rfl⟩)
  go_quiet (fail)
  go_wp2_with (go_at_call 49; refine (HT.out _).mono ?_; rintro e w1 ⟨rfl, hblk, hb1, hz1⟩; obtain ⟨p2, n2, c2, w2, hrun, hc2, hf2, hto⟩ := HFIN.out w1 ⟨hb1.os, hb1.tape, hb1.output, hb1.size, hb1.block⟩ hblk; have cG := hblk.c1; have fG := hblk.frozen 1; have HTO := Lib.hid hto; clear hblk hb1 hz1 hto HFIN)
  go_region
  all_goals go_wp2
  all_goals go_ret
  all_goals exact ⟨rfl, HTO.out⟩

/-- A region's row was appended to, its field set anew. -/
theorem Dev.grow1 {own : List Nat} {W W' : World} {b : Nat} {D : DevS} {v0 v1 v : Value} {l : List Nat} (h : Dev own W b D v0 v1) (hown : W'.ownsRow 0 5 1 v (D.r1.length + l.length) (D.r1.map encY ++ l.map encY)) (hg : W.grownBy W' v1.ownBlock) (hat : v.ownBlock = v1.ownBlock ∨ v.ownBlock = some W.heap.size)
    (hl : D.r1.length + l.length ≤ D.cap) (hb : ∀ x ∈ l, x < 256) : DevTo own W b (D.put 1 (D.r1 ++ l)) (W'.setCell ⟨b, 2, none⟩ v) := by
  have hbut : But own W W' := (But.refl _ _).grown hg (fun g e => h.o1 g e)
  have hrow : Row W' v (D.r1 ++ l) := by
    unfold Row
    rw [List.length_append, List.map_append]; exact hown
  have hne : v1.ownBlock ≠ some b := h.r1.ne h.blk
  have hblk : DevB W' b D.cap v0 v1 D.down D.left D.turned := (hg.block b h.blk.lt (fun e => hne e.symm)).trans h.blk
  have hlt : ∀ g, v.ownBlock = some g → g < W'.heap.size := hrow.lt
  have hother : Row W' v0 D.r0 := h.r0.grown hg (fun g e e2 => (h.o0 g e).2 e2)
  have ownlt : ∀ k ∈ own, k < W'.heap.size := fun k hk => Nat.lt_of_lt_of_le (h.lt k hk) hg.size
  have hlen : (D.r1 ++ l).length ≤ D.cap := by rw [List.length_append]; exact hl
  have hby : ∀ x ∈ D.r1 ++ l, x < 256 := fun x hx => (List.mem_append.1 hx).elim (h.ok.b1 x) (hb x)
  have hset : But [b] W' (W'.setCell ⟨b, 2, none⟩ v) := (But.refl _ _).set (by simp) _
  have hrow2 : Row (W'.setCell ⟨b, 2, none⟩ v) v (D.r1 ++ l) := hrow.but hset (fun g hg' hk => by simp at hk; subst hk; exact hrow.ne hblk hg')
  have hother2 : Row (W'.setCell ⟨b, 2, none⟩ v) v0 D.r0 := hother.but hset (fun g hg' hk => by simp at hk; subst hk; exact hother.ne hblk hg')
  refine ⟨v.ownBlock.toList ++ own, v0, v, ⟨hblk.set_r1 v, hother2, hrow2, by simp [h.bo], ?_, ?_, fun k hk => ?_, ⟨h.ok.cap, h.ok.l0, hlen, h.ok.b0, hby, h.ok.lf, h.ok.tn⟩⟩, hbut.set h.bo _, fun k hk => ?_⟩
  · intro g hg'
    refine ⟨by simp [(h.o0 g hg').1], fun e => ?_⟩
    rcases hat with e1 | e1
    · rw [e] at e1; exact (h.o0 g hg').2 e1.symm
    · rw [e] at e1; cases e1; exact absurd (h.r0.lt _ hg') (by omega)
  · intro g hg'; simp [hg']
  · have hz : (W'.setCell ⟨b, 2, none⟩ v).heap.size = W'.heap.size := by simp [World.setCell]
    rw [hz]
    rcases List.mem_append.1 hk with hk | hk
    · exact hlt k (by simpa using hk)
    · exact ownlt k hk
  · rcases List.mem_append.1 hk with hk | hk
    · have hk' : v.ownBlock = some k := by simpa using hk
      rcases hat with e | e
      · rw [hk'] at e; exact .inl (h.o1 k e.symm)
      · rw [hk'] at e; cases e; exact .inr (Nat.le_refl _)
    · exact .inl hk

set_option maxRecDepth 100000 in
set_option maxHeartbeats 4000000 in
theorem append1_any {own : List Nat} {b : Nat} {D : DevS} {v0 v1 : Value} (pa : Option Addr) (n c : Nat) (l : List Nat) (hlb : ∀ x ∈ l, x < 256) (hfit : l.length ≤ D.cap - D.r1.length) (hd : D.down = false) (w : World) (h : Dev own w b D v0 v1) (hS : Sl encY w.heap.size w (.slice pa n c) l) (ho : Off own (.slice pa n c)) :
    Calls Tryd.prog 33 #[.pointer (some ⟨b, 0, none⟩), .int .i64 1, .slice pa n c] w fun e w' =>
      e = .returned (.int .i64 (downE l.length D.left)) ∧ DevTo own w b ((D.turn l.length).put 1 (D.r1 ++ l.take (doneN l.length D.left))) w' := by
  have c3 := h.blk.c3
  rw [hd] at c3
  have c0 := h.blk.c0
  have hl := h.ok.l1
  have hcap := h.ok.cap
  obtain rfl := hS.len
  have hcc := hS.capb
  have HH := Lib.hid (fun p w => dhas_any p 1 w)
  rw [show regB 1 = true from rfl] at HH
  obtain ⟨a, c', e1, hcc'⟩ := h.r1.form
  subst e1
  have cF := h.blk.c2
  obtain ⟨q, hq⟩ : ∃ q, l.length = q := ⟨_, rfl⟩
  have hle : doneN q D.left ≤ q := Nat.min_le_left _ _
  have HQ := Lib.hid hq
  rw [hq] at hfit hcc ho hS ⊢
  have HT := Lib.hid (fun (nq : Nat) => dturn_any q (by omega) h.ok.lf h.ok.tn (w.drewN nq) (v0 := v0) (v1 := (.slice a D.r1.length c')) (dn := D.down) (cap := D.cap) h.blk)
  obtain ⟨k, hk⟩ : ∃ k, doneN q D.left = k := ⟨_, rfl⟩
  rw [hk] at hle HT ⊢
  have HFIN : Hid (∀ (w1 : World), But [b] w w1 → DevB w1 b D.cap v0 (.slice a D.r1.length c') (D.down || decide (D.left < q)) (D.left - k) (turnedN D.turned k) →
      ∃ (p2 : Option Addr) (n2 c2 : Nat) (w2 : World), (Builtin.append_ #[22, 22] 22 #[.slice a D.r1.length c', .slice pa k c]).run Tryd.prog w1.drew = .ok (.slice p2 n2 c2) w2 ∧ w2.cell? ⟨b, 2, none⟩ = some (.slice a D.r1.length c') ∧ w2.frozen? ⟨b, 2, none⟩ = false ∧
        DevTo own w b ((D.turn q).put 1 (D.r1 ++ l.take k)) (w2.setCell ⟨b, 2, none⟩ (.slice p2 n2 c2))) := Lib.hid (by
    intro w1 hb1 hblk
    have hd1 := h.turned q hb1 (by rw [hk]; exact hblk)
    have hd2 := hd1.drew
    have hb2 : But own w w1 := hb1.more (fun x hx => by simp at hx; subst hx; exact .inl h.bo)
    have hS1 := (hS.but hb2 ho).take (k := k) hle
    have htl : (l.take k).length = k := by rw [List.length_take]; omega
    obtain ⟨v', w2, r1, r2, r3, r4⟩ := run_append_bytes w1.drew _ _ _ hd2.r1 _ _ (l.take k) hS1 (by rw [turn_r1, htl]; omega)
    have hg := hd2.grow1 r2 r3 r4 (by rw [turn_r1, turn_cap, htl]; omega) (fun x hx => hlb x (List.mem_of_mem_take hx))
    have hne : (Value.slice a D.r1.length c').ownBlock ≠ some b := hd2.r1.ne hd2.blk
    have hblk2 : DevB w2 b D.cap v0 (.slice a D.r1.length c') (D.down || decide (D.left < q)) (D.left - k) (turnedN D.turned k) := (r3.block b hd2.blk.lt (fun e => hne e.symm)).trans hblk.drew
    obtain ⟨p2, n2, c2, rfl⟩ : ∃ p2 n2 c2, v' = .slice p2 n2 c2 := by
      rcases r2.2 with ⟨e, _⟩ | ⟨g, cap, cur, e, _⟩
      · exact ⟨_, _, _, e⟩
      · exact ⟨_, _, _, e⟩
    refine ⟨p2, n2, c2, w2, r1, hblk2.c2, hblk2.frozen 2, ?_⟩
    obtain ⟨own', v0', v1', g1, g2, g3⟩ := hg
    exact ⟨own', v0', v1', g1, hb2.drew.trans g2 (fun k hk => .inl hk), fun k hk => (g3 k hk).elim .inl (fun h4 => .inr (Nat.le_trans hb2.size h4))⟩)
  obtain ⟨m, hm⟩ : ∃ m, D.r1.length = m := ⟨_, rfl⟩
  rw [hm] at hl cF hcc' HT HFIN hfit
  have hgt : ((q : Int) > (D.cap : Int) - (m : Int)) ↔ False := by
    constructor
    · intro h; omega
    · intro h; exact h.elim
  have hdec : decide ((D.cap : Int) - (m : Int) < (q : Int)) = false := decide_eq_false (by omega)
  have hkc : k ≤ c := by omega
  clear hgt hk h hS ho hm hq hd hlb
  obtain ⟨cp, hcp⟩ : ∃ cp, D.cap = cp := ⟨_, rfl⟩
  rw [hcp] at c0 hl hfit hcap hdec
  clear hcp
  go_enter Tryd.func33, Tryd.ntmps33
  go_wp2_with (go_at_call 21; refine (HH.out _ _).mono ?_; rintro e w' ⟨rfl, rfl⟩)
  go_quiet (fail)
  go_wp2_with (go_at_call 49; refine (HT.out _).mono ?_; rintro e w1 ⟨rfl, hblk, hb1, hz1⟩; obtain ⟨p2, n2, c2, w2, hrun, hc2, hf2, hto⟩ := HFIN.out w1 ⟨hb1.os, hb1.tape, hb1.output, hb1.size, hb1.block⟩ hblk; have cG := hblk.c2; have fG := hblk.frozen 2; have HTO := Lib.hid hto; clear hblk hb1 hz1 hto HFIN)
  go_region
  all_goals go_wp2
  all_goals go_ret
  all_goals exact ⟨rfl, HTO.out⟩

/-- What an append, or a truncation, comes to. -/
def appS (D : DevS) (i : Int) (l : List Nat) : DevS × Int :=
  if D.down = true then (D, 30) else if regB i = false then (D, 1) else if D.cap - (D.row i).length < l.length then (D, 6) else ((D.turn l.length).put i (D.row i ++ l.take (doneN l.length D.left)), downE l.length D.left)
def truncS (D : DevS) (i n : Int) : DevS × Int :=
  if D.down = true then (D, 30) else if regB i = false ∨ n < 0 ∨ ((D.row i).length : Int) < n then (D, 1)
  else ((D.turn ((D.row i).length - n.toNat)).put i ((D.row i).take ((D.row i).length - doneN ((D.row i).length - n.toNat) D.left)), downE ((D.row i).length - n.toNat) D.left)

set_option maxHeartbeats 1000000 in
theorem appdown_any {own : List Nat} {b : Nat} {D : DevS} {v0 v1 : Value} (i : Int) (sv : Value) (hd : D.down = true) (w : World) (h : Dev own w b D v0 v1) :
    Calls Tryd.prog 33 #[.pointer (some ⟨b, 0, none⟩), .int .i64 i, sv] w fun e w' => e = .returned (.int .i64 30) ∧ DevTo own w b D w' := by
  have c3 := h.blk.c3
  rw [hd] at c3
  have HD := Lib.hid (h.same (Below.refl _ _))
  clear h hd
  go_enter Tryd.func33, Tryd.ntmps33
  go_wp2
  go_ret
  exact ⟨rfl, HD.out⟩
set_option maxHeartbeats 1000000 in
theorem appreg_any {own : List Nat} {b : Nat} {D : DevS} {v0 v1 : Value} (i : Int) (hi : regB i = false) (sv : Value) (hd : D.down = false) (w : World) (h : Dev own w b D v0 v1) :
    Calls Tryd.prog 33 #[.pointer (some ⟨b, 0, none⟩), .int .i64 i, sv] w fun e w' => e = .returned (.int .i64 1) ∧ DevTo own w b D w' := by
  have c3 := h.blk.c3
  rw [hd] at c3
  have HD := Lib.hid (h.same (Below.refl _ _))
  have HH := Lib.hid (fun p w => dhas_any p i w)
  rw [hi] at HH
  clear h hd hi
  go_enter Tryd.func33, Tryd.ntmps33
  go_wp2_with (go_at_call 21; refine (HH.out _ _).mono ?_; rintro e w' ⟨rfl, rfl⟩)
  go_ret
  exact ⟨rfl, HD.out⟩

set_option maxRecDepth 100000 in
set_option maxHeartbeats 1000000 in
theorem appfull0_any {own : List Nat} {b : Nat} {D : DevS} {v0 v1 : Value} (pa : Option Addr) (n c : Nat) (hfull : D.cap - D.r0.length < n) (hd : D.down = false) (w : World) (h : Dev own w b D v0 v1) :
    Calls Tryd.prog 33 #[.pointer (some ⟨b, 0, none⟩), .int .i64 0, .slice pa n c] w fun e w' => e = .returned (.int .i64 6) ∧ DevTo own w b D w' := by
  have c3 := h.blk.c3
  rw [hd] at c3
  have c0 := h.blk.c0
  have hl := h.ok.l0
  have hcap := h.ok.cap
  have HD := Lib.hid (fun (nq : Nat) => (show DevTo own w b D (w.drewN nq) from h.same ⟨rfl, rfl, rfl, Nat.le_refl _, fun _ _ => rfl⟩))
  have HH := Lib.hid (fun p w => dhas_any p 0 w)
  rw [show regB 0 = true from rfl] at HH
  obtain ⟨a, c', e0, hcc'⟩ := h.r0.form
  subst e0
  have cF := h.blk.c1
  obtain ⟨m, hm⟩ : ∃ m, D.r0.length = m := ⟨_, rfl⟩
  obtain ⟨cp, hcp⟩ : ∃ cp, D.cap = cp := ⟨_, rfl⟩
  rw [hm] at hl cF hcc' hfull
  rw [hcp] at c0 hl hcap hfull
  have hdec : decide ((cp : Int) - (m : Int) < (n : Int)) = true := decide_eq_true (by omega)
  clear hcp hm h hd
  go_enter Tryd.func33, Tryd.ntmps33
  go_wp2_with (go_at_call 21; refine (HH.out _ _).mono ?_; rintro e w' ⟨rfl, rfl⟩)
  go_quiet (fail)
  go_wp2
  go_ret
  exact ⟨rfl, HD.out _⟩

set_option maxRecDepth 100000 in
set_option maxHeartbeats 1000000 in
theorem appfull1_any {own : List Nat} {b : Nat} {D : DevS} {v0 v1 : Value} (pa : Option Addr) (n c : Nat) (hfull : D.cap - D.r1.length < n) (hd : D.down = false) (w : World) (h : Dev own w b D v0 v1) :
    Calls Tryd.prog 33 #[.pointer (some ⟨b, 0, none⟩), .int .i64 1, .slice pa n c] w fun e w' => e = .returned (.int .i64 6) ∧ DevTo own w b D w' := by
  have c3 := h.blk.c3
  rw [hd] at c3
  have c0 := h.blk.c0
  have hl := h.ok.l1
  have hcap := h.ok.cap
  have HD := Lib.hid (fun (nq : Nat) => (show DevTo own w b D (w.drewN nq) from h.same ⟨rfl, rfl, rfl, Nat.le_refl _, fun _ _ => rfl⟩))
  have HH := Lib.hid (fun p w => dhas_any p 1 w)
  rw [show regB 1 = true from rfl] at HH
  obtain ⟨a, c', e1, hcc'⟩ := h.r1.form
  subst e1
  have cF := h.blk.c2
  obtain ⟨m, hm⟩ : ∃ m, D.r1.length = m := ⟨_, rfl⟩
  obtain ⟨cp, hcp⟩ : ∃ cp, D.cap = cp := ⟨_, rfl⟩
  rw [hm] at hl cF hcc' hfull
  rw [hcp] at c0 hl hcap hfull
  have hdec : decide ((cp : Int) - (m : Int) < (n : Int)) = true := decide_eq_true (by omega)
  clear hcp hm h hd
  go_enter Tryd.func33, Tryd.ntmps33
  go_wp2_with (go_at_call 21; refine (HH.out _ _).mono ?_; rintro e w' ⟨rfl, rfl⟩)
  go_quiet (fail)
  go_wp2
  go_ret
  exact ⟨rfl, HD.out _⟩
end Go.Proofs.YtocmfdahnekboaaDoor

/- Append, Truncate, Load, Cut, Restore as a whole; Clone. -/
namespace Go.Proofs.YtocmfdahnekboaaDoor
open Go.RowKit

theorem app_any {own : List Nat} {b : Nat} {D : DevS} {v0 v1 : Value} (i : Int) (pa : Option Addr) (n c : Nat) (l : List Nat) (hlb : ∀ x ∈ l, x < 256) (w : World) (h : Dev own w b D v0 v1) (hS : Sl encY w.heap.size w (.slice pa n c) l) (ho : Off own (.slice pa n c)) :
    Calls Tryd.prog 33 #[.pointer (some ⟨b, 0, none⟩), .int .i64 i, .slice pa n c] w fun e w' => e = .returned (.int .i64 (appS D i l).2) ∧ DevTo own w b (appS D i l).1 w' := by
  cases hd : D.down with
  | true => rw [show appS D i l = (D, 30) from if_pos hd]; exact appdown_any i _ hd w h
  | false =>
    have e0 : appS D i l = if regB i = false then (D, 1) else if D.cap - (D.row i).length < l.length then (D, 6) else ((D.turn l.length).put i (D.row i ++ l.take (doneN l.length D.left)), downE l.length D.left) := if_neg (by rw [hd]; decide)
    cases hr : regB i with
    | false => rw [e0, if_pos hr]; exact appreg_any i hr _ hd w h
    | true =>
      rw [e0, if_neg (by rw [hr]; decide)]
      obtain rfl := hS.len
      rcases regB_t hr with rfl | rfl
      · by_cases hf : D.cap - (D.row 0).length < l.length
        · rw [if_pos hf]; exact appfull0_any _ _ _ hf hd w h
        · rw [if_neg hf]; exact append0_any _ _ _ l hlb (by rw [row_0] at hf; omega) hd w h hS ho
      · by_cases hf : D.cap - (D.row 1).length < l.length
        · rw [if_pos hf]; exact appfull1_any _ _ _ hf hd w h
        · rw [if_neg hf]; exact append1_any _ _ _ l hlb (by rw [row_1] at hf; omega) hd w h hS ho

set_option maxHeartbeats 1000000 in
theorem truncdown_any {own : List Nat} {b : Nat} {D : DevS} {v0 v1 : Value} (i n : Int) (hd : D.down = true) (w : World) (h : Dev own w b D v0 v1) :
    Calls Tryd.prog 37 #[.pointer (some ⟨b, 0, none⟩), .int .i64 i, .int .i64 n] w fun e w' => e = .returned (.int .i64 30) ∧ DevTo own w b D w' := by
  have c3 := h.blk.c3
  rw [hd] at c3
  have HD := Lib.hid (h.same (Below.refl _ _))
  clear h hd
  go_enter Tryd.func37, Tryd.ntmps37
  go_wp2
  go_ret
  exact ⟨rfl, HD.out⟩
set_option maxHeartbeats 1000000 in
theorem truncreg_any {own : List Nat} {b : Nat} {D : DevS} {v0 v1 : Value} (i n : Int) (hi : regB i = false) (hd : D.down = false) (w : World) (h : Dev own w b D v0 v1) :
    Calls Tryd.prog 37 #[.pointer (some ⟨b, 0, none⟩), .int .i64 i, .int .i64 n] w fun e w' => e = .returned (.int .i64 1) ∧ DevTo own w b D w' := by
  have c3 := h.blk.c3
  rw [hd] at c3
  have HD := Lib.hid (h.same (Below.refl _ _))
  have HH := Lib.hid (fun p w => dhas_any p i w)
  rw [hi] at HH
  clear h hd hi
  go_enter Tryd.func37, Tryd.ntmps37
  go_wp2_with (go_at_call 21; refine (HH.out _ _).mono ?_; rintro e w' ⟨rfl, rfl⟩)
  go_ret
  exact ⟨rfl, HD.out⟩
set_option maxHeartbeats 1000000 in
theorem truncneg_any {own : List Nat} {b : Nat} {D : DevS} {v0 v1 : Value} (i n : Int) (hi : regB i = true) (hn : n < 0) (hd : D.down = false) (w : World) (h : Dev own w b D v0 v1) :
    Calls Tryd.prog 37 #[.pointer (some ⟨b, 0, none⟩), .int .i64 i, .int .i64 n] w fun e w' => e = .returned (.int .i64 1) ∧ DevTo own w b D w' := by
  have c3 := h.blk.c3
  rw [hd] at c3
  have HD := Lib.hid (h.same (Below.refl _ _))
  have HH := Lib.hid (fun p w => dhas_any p i w)
  rw [hi] at HH
  clear h hd hi
  go_enter Tryd.func37, Tryd.ntmps37
  go_wp2_with (go_at_call 21; refine (HH.out _ _).mono ?_; rintro e w' ⟨rfl, rfl⟩)
  go_ret
  exact ⟨rfl, HD.out⟩

set_option maxRecDepth 100000 in
set_option maxHeartbeats 1000000 in
theorem truncbig0_any {own : List Nat} {b : Nat} {D : DevS} {v0 v1 : Value} (n : Int) (hn : (D.r0.length : Int) < n) (hd : D.down = false) (w : World) (h : Dev own w b D v0 v1) :
    Calls Tryd.prog 37 #[.pointer (some ⟨b, 0, none⟩), .int .i64 0, .int .i64 n] w fun e w' => e = .returned (.int .i64 1) ∧ DevTo own w b D w' := by
  have c3 := h.blk.c3
  rw [hd] at c3
  have HD := Lib.hid (h.same (Below.refl _ _))
  have HH := Lib.hid (fun p w => dhas_any p 0 w)
  rw [show regB 0 = true from rfl] at HH
  obtain ⟨a, c', e0, hcc'⟩ := h.r0.form
  subst e0
  have cF := h.blk.c1
  obtain ⟨m, hm⟩ : ∃ m, D.r0.length = m := ⟨_, rfl⟩
  rw [hm] at cF hcc' hn
  have hn0 : ¬ n < 0 := by omega
  clear h hd hm
  go_enter Tryd.func37, Tryd.ntmps37
  go_wp2_with (go_at_call 21; refine (HH.out _ _).mono ?_; rintro e w' ⟨rfl, rfl⟩)
  go_ret
  exact ⟨rfl, HD.out⟩

set_option maxRecDepth 100000 in
set_option maxHeartbeats 1000000 in
theorem truncbig1_any {own : List Nat} {b : Nat} {D : DevS} {v0 v1 : Value} (n : Int) (hn : (D.r1.length : Int) < n) (hd : D.down = false) (w : World) (h : Dev own w b D v0 v1) :
    Calls Tryd.prog 37 #[.pointer (some ⟨b, 0, none⟩), .int .i64 1, .int .i64 n] w fun e w' => e = .returned (.int .i64 1) ∧ DevTo own w b D w' := by
  have c3 := h.blk.c3
  rw [hd] at c3
  have HD := Lib.hid (h.same (Below.refl _ _))
  have HH := Lib.hid (fun p w => dhas_any p 1 w)
  rw [show regB 1 = true from rfl] at HH
  obtain ⟨a, c', e1, hcc'⟩ := h.r1.form
  subst e1
  have cF := h.blk.c2
  obtain ⟨m, hm⟩ : ∃ m, D.r1.length = m := ⟨_, rfl⟩
  rw [hm] at cF hcc' hn
  have hn0 : ¬ n < 0 := by omega
  clear h hd hm
  go_enter Tryd.func37, Tryd.ntmps37
  go_wp2_with (go_at_call 21; refine (HH.out _ _).mono ?_; rintro e w' ⟨rfl, rfl⟩)
  go_ret
  exact ⟨rfl, HD.out⟩

theorem trunc_any {own : List Nat} {b : Nat} {D : DevS} {v0 v1 : Value} (i n : Int) (w : World) (h : Dev own w b D v0 v1) :
    Calls Tryd.prog 37 #[.pointer (some ⟨b, 0, none⟩), .int .i64 i, .int .i64 n] w fun e w' => e = .returned (.int .i64 (truncS D i n).2) ∧ DevTo own w b (truncS D i n).1 w' := by
  cases hd : D.down with
  | true => rw [show truncS D i n = (D, 30) from if_pos hd]; exact truncdown_any i n hd w h
  | false =>
    have e0 : truncS D i n = if regB i = false ∨ n < 0 ∨ ((D.row i).length : Int) < n then (D, 1) else ((D.turn ((D.row i).length - n.toNat)).put i ((D.row i).take ((D.row i).length - doneN ((D.row i).length - n.toNat) D.left)), downE ((D.row i).length - n.toNat) D.left) := if_neg (by rw [hd]; decide)
    rw [e0]
    cases hr : regB i with
    | false => rw [if_pos (.inl rfl)]; exact truncreg_any i n hr hd w h
    | true =>
      by_cases hn : n < 0
      · rw [if_pos (.inr (.inl hn))]; exact truncneg_any i n hr hn hd w h
      · obtain ⟨m, rfl⟩ : ∃ m : Nat, n = (m : Int) := ⟨n.toNat, by omega⟩
        rw [Int.toNat_natCast]
        rcases regB_t hr with rfl | rfl
        · by_cases hb : ((D.row 0).length : Int) < (m : Int)
          · rw [if_pos (.inr (.inr hb))]; exact truncbig0_any _ hb hd w h
          · rw [if_neg (by intro e; rcases e with e | e | e; cases e; omega; exact hb e)]
            exact trunc0_any m (by rw [row_0] at hb; omega) hd w h
        · by_cases hb : ((D.row 1).length : Int) < (m : Int)
          · rw [if_pos (.inr (.inr hb))]; exact truncbig1_any _ hb hd w h
          · rw [if_neg (by intro e; rcases e with e | e | e; cases e; omega; exact hb e)]
            exact trunc1_any m (by rw [row_1] at hb; omega) hd w h

def loadS (D : DevS) (i : Int) (l : List Nat) : DevS := if regB i = false then D else D.put i (l.take (min l.length D.cap))
theorem load_any {own : List Nat} {b : Nat} {D : DevS} {v0 v1 : Value} (i : Int) (a : Option Addr) (n c : Nat) (l : List Nat) (hl : Bytes l) (w : World) (h : Dev own w b D v0 v1) (hS : Sl encY w.heap.size w (.slice a n c) l) :
    Calls Tryd.prog 6 #[.pointer (some ⟨b, 0, none⟩), .int .i64 i, .slice a n c] w fun e w' => e = .returned (.tuple #[]) ∧ DevTo own w b (loadS D i l) w' := by
  cases hr : regB i with
  | false => rw [show loadS D i l = D from if_pos hr]; exact loadn_any i hr _ w h
  | true =>
    rw [show loadS D i l = D.put i (l.take (min l.length D.cap)) from if_neg (by rw [hr]; decide)]
    rcases regB_t hr with rfl | rfl
    · exact load0_any a n c l hl w h hS
    · exact load1_any a n c l hl w h hS
def cutS (D : DevS) (n : Int) : DevS := { D with left := cutN n }
def restoreS (D : DevS) : DevS := { D with down := false, left := 9223372036854775807 }
end Go.Proofs.YtocmfdahnekboaaDoor
namespace Go.Proofs.YtocmfdahnekboaaDoor
open Go.RowKit
/-- How far a clone has come: its fields, of k regions new memory. -/
structure CloneTo (w : World) (D : DevS) (v0 v1 : Value) (k : Nat) (wr : World) : Prop where
  ex : ∃ u0 u1, DevB wr w.heap.size D.cap u0 u1 D.down D.left D.turned ∧ (k = 0 → u0 = v0) ∧ (k ≤ 1 → u1 = v1) ∧
    (1 ≤ k → wr.ownsRow (w.heap.size + 1) 5 1 u0 D.r0.length (D.r0.map encY)) ∧ (2 ≤ k → wr.ownsRow (w.heap.size + 1) 5 1 u1 D.r1.length (D.r1.map encY) ∧ ∀ g, u0.ownBlock = some g → u1.ownBlock ≠ some g)
  b : Below w.heap.size w wr

theorem ownsRow_base {W : World} {base base' : Nat} {v : Value} {n : Nat} {xs : List Value} {t : TypeId} (h : W.ownsRow base t 1 v n xs) (hb : base' ≤ base) : W.ownsRow base' t 1 v n xs := by
  obtain ⟨h1, h2⟩ := h
  refine ⟨h1, ?_⟩
  rcases h2 with h2 | ⟨g, cap, cur, hv, hg, r⟩
  · exact .inl h2
  · exact .inr ⟨g, cap, cur, hv, Nat.le_trans hb hg, r⟩
theorem zdev (w : World) : (zeroValue 56).run Tryd.prog w = .ok (.agg #[.int .i64 0, .slice none 0 0, .slice none 0 0, .bool false, .int .i64 0, .int .i64 0]) w := by kernel_rfl

end Go.Proofs.YtocmfdahnekboaaDoor
namespace Go.Proofs.YtocmfdahnekboaaDoor
open Go.RowKit
def cD2 (l0 l1 : List Nat) : DevS := ⟨1000, l0, l1, false, 9223372036854775807, 0⟩
def cD3 (l0 l1 : List Nat) (t : Nat) : DevS := ⟨1000, l0, l1, false, t, 0⟩
def cD4 (l0 l1 : List Nat) (t : Nat) : DevS := ⟨1000, l0 ++ l1.take (doneN l1.length t), l1, decide (t < l1.length), t - doneN l1.length t, turnedN 0 (doneN l1.length t)⟩
def cD6 (l0 l1 : List Nat) (t tn : Nat) : DevS := ⟨1000, l0, l1, false, t, tn⟩
def cD7 (l0 l1 : List Nat) (t tn n : Nat) : DevS := ⟨1000, l0.take (l0.length - doneN (l0.length - n) t), l1, decide (t < l0.length - n), t - doneN (l0.length - n) t, turnedN tn (doneN (l0.length - n) t)⟩
theorem c_load0 (l0 : List Nat) (h0 : l0.length ≤ 500) : loadS (newD 1000) 0 l0 = ⟨1000, l0, [], false, 9223372036854775807, 0⟩ := by
  have e1 : loadS (newD 1000) 0 l0 = (newD 1000).put 0 (l0.take (min l0.length (newD 1000).cap)) := if_neg (by decide)
  have e2 : (newD 1000).cap = 1000 := by decide
  rw [e1, e2, List.take_of_length_le (by omega)]
  rfl
theorem c_load1 (l0 l1 : List Nat) (h1 : l1.length ≤ 500) : loadS ⟨1000, l0, [], false, 9223372036854775807, 0⟩ 1 l1 = cD2 l0 l1 := by
  have e1 : loadS (⟨1000, l0, [], false, 9223372036854775807, 0⟩ : DevS) 1 l1 = (⟨1000, l0, [], false, 9223372036854775807, 0⟩ : DevS).put 1 (l1.take (min l1.length 1000)) := if_neg (by decide)
  rw [e1, List.take_of_length_le (by omega)]
  rfl
theorem c_cut (l0 l1 : List Nat) (t : Nat) : cutS (cD2 l0 l1) t = cD3 l0 l1 t := by
  unfold cutS cD2 cD3 cutN
  rw [if_neg (by omega), Int.toNat_natCast]
theorem c_app (l0 l1 : List Nat) (t : Nat) (h0 : l0.length ≤ 500) (h1 : l1.length ≤ 500) : appS (cD3 l0 l1 t) 0 l1 = (cD4 l0 l1 t, downE l1.length t) := by
  unfold appS
  rw [if_neg (by simp [cD3]), if_neg (by decide), if_neg (by show ¬ 1000 - l0.length < l1.length; omega)]
  simp [cD3, cD4, DevS.turn, DevS.put, DevS.row]
  try rfl
theorem c_rest (l0 l1 : List Nat) (t t2 : Nat) : cutS (restoreS (cD4 l0 l1 t)) t2 = cD6 (l0 ++ l1.take (doneN l1.length t)) l1 t2 (turnedN 0 (doneN l1.length t)) := by
  unfold cutS restoreS cD4 cD6 cutN
  rw [if_neg (by omega), Int.toNat_natCast]
theorem c_trunc (l0 l1 : List Nat) (t tn n : Nat) (hn : n ≤ l0.length) : truncS (cD6 l0 l1 t tn) 0 n = (cD7 l0 l1 t tn n, downE (l0.length - n) t) := by
  unfold truncS
  rw [if_neg (by simp [cD6]), if_neg (by intro h; rcases h with h | h | h; cases h; omega; have h2 : (l0.length : Int) < n := h; omega), Int.toNat_natCast]
  simp [cD6, cD7, DevS.turn, DevS.put, DevS.row]
theorem downE_b (q t : Nat) : ∃ B : Bool, (downE q t == 30) = B ∧ decide (t < q) = B := by
  unfold downE
  by_cases h : t < q
  · exact ⟨true, by rw [if_pos h]; rfl, decide_eq_true h⟩
  · exact ⟨false, by rw [if_neg h]; rfl, decide_eq_false h⟩
theorem off_arg {own : List Nat} {w : World} {v : Value} {l : List Nat} (h : Sl encY w.heap.size w v l) (ho : ∀ k ∈ own, w.heap.size ≤ k) : Off own v := fun ad n c e hn hk => by
  rcases h with ⟨rfl, a', c', e', _⟩ | ⟨b, off, cap, e', hlt, _⟩
  · rw [e] at e'; cases e'; omega
  · rw [e] at e'; cases e'
    have := ho _ hk
    simp at this; omega
end Go.Proofs.YtocmfdahnekboaaDoor
